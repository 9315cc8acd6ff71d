/- What isShaped's walk wants.; isShaped, way by way (gen_fshp.py).; isShaped, way by way (gen_fshp.py). -/
import Derived.Test.YtkgnigloboajcaaGreatDoorK28
import Derived.Shelf.RegionOpenPlain
set_option maxRecDepth 100000
set_option maxHeartbeats 16000000
namespace Go.Proofs.YtkgnigloboajcaaGreatDoor
open Go.RowKit
theorem below_of {W wx:World} (h:Below W.heap.size W.drew wx):Below W.heap.size W wx:=(Below.refl _ W).drew.trans h
theorem wrapN {n:Int} (h0 : -9223372036854775808≤n) (h1:n<9223372036854775808):IntKind.i64.wrap n=n:=by
 by_cases h:0≤n
 ·exact wrapI h h1
 ·have e:n % 2 ^ 64=n+2 ^ 64:=by omega
  simp only [IntKind.wrap,IntKind.bits,IntKind.signed,e]
  simp
  omega
theorem wrapV {f:Frm} (h:FOk f):IntKind.i64.wrap ((f.kids.len:Int)-(valsN f:Int))=(f.kids.len:Int)-(valsN f:Int):=by
 have h1:=h.kl
 have h2:=h.nl
 have h3:valsN f≤f.names.length:=by unfold valsN;split<;>omega
 exact wrapN (by omega) (by omega)
theorem shp_at {w:World} (h:SL w) {m:Nat} (h0:1≤m) (h1:m<16):w.cell? ⟨1,m*4,none⟩=some (S (shpOf m).1)∧w.cell? ⟨1,m*4+1,none⟩=some (.int .i64 (shpOf m).2.1)∧w.cell? ⟨1,m*4+1+1,none⟩=some (.int .i64 (shpOf m).2.2.1)∧w.cell? ⟨1,m*4+1+1+1,none⟩=some (.int .i64 (shpOf m).2.2.2):=by
 have:=h (m-1) (by omega)
 rw [show m-1+1=m by omega] at this
 exact this
theorem keepZ {W W' : World} {b:Nat} {v0 v1 v2 v3 v4 v5 v6 v7 v8:Value} (hb:Below W.heap.size W W') (h:W.cell? ⟨b,0,none⟩=some v0∧W.cell? ⟨b,1,none⟩=some v1∧W.cell? ⟨b,2,none⟩=some v2∧W.cell? ⟨b,3,none⟩=some v3∧W.cell? ⟨b,4,none⟩=some v4∧W.cell? ⟨b,5,none⟩=some v5∧W.cell? ⟨b,6,none⟩=some v6∧W.cell? ⟨b,7,none⟩=some v7∧W.cell? ⟨b,8,none⟩=some v8) :
  W'.cell? ⟨b,0,none⟩=some v0∧W'.cell? ⟨b,1,none⟩=some v1∧W'.cell? ⟨b,2,none⟩=some v2∧W'.cell? ⟨b,3,none⟩=some v3∧W'.cell? ⟨b,4,none⟩=some v4∧W'.cell? ⟨b,5,none⟩=some v5∧W'.cell? ⟨b,6,none⟩=some v6∧W'.cell? ⟨b,7,none⟩=some v7∧W'.cell? ⟨b,8,none⟩=some v8:=by
 obtain ⟨h0,h1,h2,h3,h4,h5,h6,h7,h8⟩:=h
 have lt:=cell_lt h0
 have e:∀o,W'.cell? ⟨b,o,none⟩=W.cell? ⟨b,o,none⟩:=fun o=>hb.cell (p:=⟨b,o,none⟩) lt
 exact ⟨(e _).trans h0,(e _).trans h1,(e _).trans h2,(e _).trans h3,(e _).trans h4,(e _).trans h5,(e _).trans h6,(e _).trans h7,(e _).trans h8⟩
theorem keepS {W W' : World} {b o0 o1 o2 o3:Nat} {v0 v1 v2 v3:Value} (hb:Below W.heap.size W W') (h:W.cell? ⟨b,o0,none⟩=some v0∧W.cell? ⟨b,o1,none⟩=some v1∧W.cell? ⟨b,o2,none⟩=some v2∧W.cell? ⟨b,o3,none⟩=some v3) :
  W'.cell? ⟨b,o0,none⟩=some v0∧W'.cell? ⟨b,o1,none⟩=some v1∧W'.cell? ⟨b,o2,none⟩=some v2∧W'.cell? ⟨b,o3,none⟩=some v3:=by
 obtain ⟨h0,h1,h2,h3⟩:=h
 have lt:=cell_lt h0
 have e:∀o,W'.cell? ⟨b,o,none⟩=W.cell? ⟨b,o,none⟩:=fun o=>hb.cell (p:=⟨b,o,none⟩) lt
 exact ⟨(e _).trans h0,(e _).trans h1,(e _).trans h2,(e _).trans h3⟩
theorem takes_ten {m:Nat} {n:Int} {k:Nat} (h:m=10) (hn:n=(k:Int)) (ht:takesB m n=true):k≠0:=by
 subst h
 rintro rfl
 rw [hn] at ht
 exact absurd ht (by decide)
open Go.RowKit Go.Maps Go.ChangeMaps
theorem rdH {P:Program} {ops:Array Oper} {Q:Exit→Act→World→Prop} {md:Region.Mode} {S:World→Prop} (i:Nat) {d:_} {op:_} {ty:_} {ps:_} {af:_} {gd:_} {fuel:Nat} {listed:Array Bool} {a:Act} {w:World}
  (h:∀K' : Act→World→Prop,Shut (∀a w,S w→(S w→wpAnyH P md ops Q S fuel (listed.setIfInBounds i true) a w)→K' a w)→if Region.wanted ⟨d,op,ty,ps,af,gd⟩ (yielded ops a.tmps)=true then Oper.wp P ⟨d,op,ty,ps,af,gd⟩ a w K' Q else K' (a.put d undef) w)
  (ho:ops[i]?=some ⟨d,op,ty,ps,af,gd⟩:=by rfl) (hr:Region.ready md ops listed=[i]:=by kernel_rfl):wpAnyH P md ops Q S (fuel+1) listed a w :=
 wpAnyH_ready hr (by simp) (AllReadyH.cons ho h AllReadyH.nil)
theorem puH (l:List Value) (e:List Deferred) (d:Nat) (v:Value):Act.put ⟨l.toArray,e⟩ (some d) v=⟨(l.set d v).toArray,e⟩:=by simp [Act.put]
theorem tkH {P:Program} {ops:Array Oper} {Q:Exit→Act→World→Prop} {md:Region.Mode} {S:World→Prop} (i:Nat) {d:_} {op:_} {ty:_} {ps:_} {af:_} {gd:_} {v:Value} {fuel:Nat} {listed:Array Bool} {a:Act} {w:World}
  (h:wpAnyH P md ops Q S fuel (listed.setIfInBounds i true) (a.put d v) w) (hi:ops[i]?=some ⟨d,op,ty,ps,af,gd⟩:=by rfl) (hs:Region.noSelect ops=true:=by kernel_rfl) (hf:Region.free md ops listed i=true:=by kernel_rfl)
  (hr:(Region.ready md ops listed).contains i=true:=by kernel_rfl) (hQ:∀c a w,Q (.panic c) (a.put d v) w→Q (.panic c) a w:=by exact fun _ _ _ h=>h) (hg:Region.wanted ⟨d,op,ty,ps,af,gd⟩ (yielded ops a.tmps)=true:=by rfl)
  (hy:∀w,S w→(execOp a.eval ⟨d,op,ty,ps,af,gd⟩).run P w = .ok (.value v) w:=by (intro w hSw;(try dsimp only at hSw);go_simp;try with_reducible rfl)) (hS:S w:=by assumption):wpAnyH P md ops Q S (fuel+1) listed a w :=
 wpAnyH_take hi hs hf hr hQ (Or.inl ⟨hg,hy⟩) hS h
theorem shaped_0 (m:Nat) (t:List UInt8) (ns:List (List UInt8)) (ks:Fm) (d:Dt) (nr kr dr:Option Addr) (nc kc dc:Nat) (w:World) (hF:FOk ⟨(m:Int),t,ns,ks,d⟩) (hR:RFo w ⟨(m:Int),t,ns,ks,d⟩ nr kr dr) (hE:Env w) (_hO:ks.oks) (hm0:1≤m) (hm1:m<16) (h1:takesB m ((ks.len:Int)-(valsN ⟨(m:Int),t,ns,ks,d⟩:Int))=false) :
  Calls Tryz.prog 153 #[frmV ⟨(m:Int),t,ns,ks,d⟩ (.slice nr ns.length nc) (.slice kr ks.len kc) (.slice dr d.s.len dc)] w fun e w' => e = .returned (.bool (false))∧Below w.heap.size w w' := by
 obtain ⟨W1,hW1⟩:∃W1,w.alloc (Z9 ⟨(m:Int),t,ns,ks,d⟩ (.slice nr ns.length nc) (.slice kr ks.len kc) (.slice dr d.s.len dc))=W1:=⟨_,rfl⟩
 have a1:=(Below.refl _ w).alloc (Nat.le_refl w.heap.size) (Z9 ⟨(m:Int),t,ns,ks,d⟩ (.slice nr ns.length nc) (.slice kr ks.len kc) (.slice dr d.s.len dc))
 have q0:=World.alloc_heap_new w (Z9 ⟨(m:Int),t,ns,ks,d⟩ (.slice nr ns.length nc) (.slice kr ks.len kc) (.slice dr d.s.len dc))
 rw [hW1] at a1 q0
 have HB1:Hid (Below w.heap.size w W1):=a1
 have HR1:Hid (RFo W1 ⟨(m:Int),t,ns,ks,d⟩ nr kr dr):=hR.below a1
 have HE1:Hid (Env W1):=hE.below a1
 have HF:Hid (FOk ⟨(m:Int),t,ns,ks,d⟩):=hF
 obtain ⟨⟨z0,z1,z2,z3,z4,z5,z6,z7,z8⟩,_⟩:=cells9 q0
 obtain ⟨s0,s1,s2,s3⟩:=shp_at HE1.out.sl hm0 hm1
 have hwr:IntKind.i64.wrap ((ks.len:Int)-(valsN ⟨(m:Int),t,ns,ks,d⟩:Int))=(ks.len:Int)-(valsN ⟨(m:Int),t,ns,ks,d⟩:Int):=wrapV hF
 have i1:¬ (m:Int)<1:=by omega
 have i3:(m:Int)<16:=by omega
 have i2:¬ (15:Int)<(m:Int):=by omega
 have hmx:Tryz.prog.follows .mixedOrders=true:=by kernel_rfl
 have hb0:Below W1.heap.size W1.drew W1.drew:=Below.refl _ _
 have mk:∀wx,Below W1.heap.size W1.drew wx→(wx.cell? ⟨w.heap.size,0,none⟩=some (.int .u8 m)∧wx.cell? ⟨w.heap.size,1,none⟩=some (S t)∧wx.cell? ⟨w.heap.size,2,none⟩=some (.slice nr ns.length nc)∧wx.cell? ⟨w.heap.size,3,none⟩=some (.slice kr ks.len kc)∧wx.cell? ⟨w.heap.size,4,none⟩=some (.int .u8 d.k)∧wx.cell? ⟨w.heap.size,5,none⟩=some (.int .i64 d.n)∧wx.cell? ⟨w.heap.size,6,none⟩=some (S d.t)∧wx.cell? ⟨w.heap.size,7,none⟩=some (.slice dr d.s.len dc)∧wx.cell? ⟨w.heap.size,8,none⟩=some (.bool d.d))∧(wx.cell? ⟨1,m*4,none⟩=some (S (shpOf m).1)∧wx.cell? ⟨1,m*4+1,none⟩=some (.int .i64 (shpOf m).2.1)∧wx.cell? ⟨1,m*4+1+1,none⟩=some (.int .i64 (shpOf m).2.2.1)∧wx.cell? ⟨1,m*4+1+1+1,none⟩=some (.int .i64 (shpOf m).2.2.2)):=fun wx hb=>⟨keepZ (W:=W1.drew) hb ⟨z0,z1,z2,z3,z4,z5,z6,z7,z8⟩,keepS (W:=W1.drew) hb ⟨s0,s1,s2,s3⟩⟩
 clear a1 q0 hR hE hF
 have HV:Hid (∀wx,Below W1.heap.size W1.drew wx→Calls Tryz.prog 124 #[frmV ⟨(m:Int),t,ns,ks,d⟩ (.slice nr ns.length nc) (.slice kr ks.len kc) (.slice dr d.s.len dc)] wx fun e w' => e = .returned (.int .i64 (valsN ⟨(m:Int),t,ns,ks,d⟩))∧Below wx.heap.size wx w'):=fun wx hb=>valueCount_any ⟨(m:Int),t,ns,ks,d⟩ nr kr dr nc kc dc wx HF.out.nl
 have HT:Hid (∀wx,Below W1.heap.size W1.drew wx→Calls Tryz.prog 149 #[shpV m, .int .i64 ((ks.len:Int)-(valsN ⟨(m:Int),t,ns,ks,d⟩:Int))] wx fun e w' => e = .returned (.bool false)∧Below wx.heap.size wx w'):=fun wx hb=>by rw [←h1];exact takes_any m _ wx
 clear h1
 go_enter Tryz.func153,Tryz.ntmps153
 go_upto_region 1 with fail
 clear hW1
 go_wp2_with fail
 have hun:undef = .tuple #[]:=rfl
 refine wp_region_noPanic ?_
 refine wp_region_held_drew (S:=fun wx=>(wx.cell? ⟨w.heap.size,0,none⟩=some (.int .u8 m)∧wx.cell? ⟨w.heap.size,1,none⟩=some (S t)∧wx.cell? ⟨w.heap.size,2,none⟩=some (.slice nr ns.length nc)∧wx.cell? ⟨w.heap.size,3,none⟩=some (.slice kr ks.len kc)∧wx.cell? ⟨w.heap.size,4,none⟩=some (.int .u8 d.k)∧wx.cell? ⟨w.heap.size,5,none⟩=some (.int .i64 d.n)∧wx.cell? ⟨w.heap.size,6,none⟩=some (S d.t)∧wx.cell? ⟨w.heap.size,7,none⟩=some (.slice dr d.s.len dc)∧wx.cell? ⟨w.heap.size,8,none⟩=some (.bool d.d))∧(wx.cell? ⟨1,m*4,none⟩=some (S (shpOf m).1)∧wx.cell? ⟨1,m*4+1,none⟩=some (.int .i64 (shpOf m).2.1)∧wx.cell? ⟨1,m*4+1+1,none⟩=some (.int .i64 (shpOf m).2.2.1)∧wx.cell? ⟨1,m*4+1+1+1,none⟩=some (.int .i64 (shpOf m).2.2.2))) hmx ?_ (fun hHeld=>?_)
 ·exact mk _ hb0
 refine tkH 0 ?_
 try simp only [puH,List.set]
 refine tkH 1 ?_
 try simp only [puH,List.set]
 refine tkH 2 ?_
 try simp only [puH,List.set]
 refine tkH 3 ?_
 try simp only [puH,List.set]
 refine tkH 4 ?_
 try simp only [puH,List.set]
 refine tkH 5 ?_
 try simp only [puH,List.set]
 refine tkH 6 ?_
 try simp only [puH,List.set]
 refine tkH 7 ?_
 try simp only [puH,List.set]
 refine rdH 8 fun K hK=>?_
 go_simp
 go_at_call 124;refine (HV.out _ hb0).mono ?_;rintro e wV ⟨rfl,hxV⟩;have hbV:Below W1.heap.size W1.drew wV:=hb0.trans (hxV.mono hb0.size);go_wp2_with fail
 refine hK.out _ _ (by first|assumption|exact mk _ ‹_›) fun _=>?_
 clear hK K
 try simp only [puH,List.set]
 refine tkH 9 ?_
 try simp only [puH,List.set]
 refine rdH 10 fun K hK=>?_
 go_simp
 go_at_call 149;refine (HT.out _ hbV).mono ?_;rintro e wT ⟨rfl,hxT⟩;have hbT:Below W1.heap.size W1.drew wT:=hbV.trans (hxT.mono hbV.size);go_wp2_with fail
 refine hK.out _ _ (by first|assumption|exact mk _ ‹_›) fun _=>?_
 clear hK K
 try simp only [puH,List.set]
 refine tkH 11 ?_
 try simp only [puH,List.set]
 refine rdH 12 fun K hK=>?_
 go_simp
 refine hK.out _ _ (by first|assumption|exact mk _ ‹_›) fun _=>?_
 clear hK K
 try simp only [puH,List.set]
 refine rdH 13 fun K hK=>?_
 go_simp
 refine hK.out _ _ (by first|assumption|exact mk _ ‹_›) fun _=>?_
 clear hK K
 try simp only [puH,List.set]
 refine rdH 14 fun K hK=>?_
 go_simp
 refine hK.out _ _ (by first|assumption|exact mk _ ‹_›) fun _=>?_
 clear hK K
 try simp only [puH,List.set]
 refine rdH 15 fun K hK=>?_
 go_simp
 refine hK.out _ _ (by first|assumption|exact mk _ ‹_›) fun _=>?_
 clear hK K
 try simp only [puH,List.set]
 refine rdH 16 fun K hK=>?_
 go_simp
 refine hK.out _ _ (by first|assumption|exact mk _ ‹_›) fun _=>?_
 clear hK K
 try simp only [puH,List.set]
 refine rdH 17 fun K hK=>?_
 go_simp
 refine hK.out _ _ (by first|assumption|exact mk _ ‹_›) fun _=>?_
 clear hK K
 try simp only [puH,List.set]
 refine rdH 18 fun K hK=>?_
 go_simp
 refine hK.out _ _ (by first|assumption|exact mk _ ‹_›) fun _=>?_
 clear hK K
 try simp only [puH,List.set]
 refine rdH 19 fun K hK=>?_
 go_simp
 refine hK.out _ _ (by first|assumption|exact mk _ ‹_›) fun _=>?_
 clear hK K
 try simp only [puH,List.set]
 refine tkH 20 ?_
 try simp only [puH,List.set]
 refine tkH 21 ?_
 try simp only [puH,List.set]
 refine rdH 22 fun K hK=>?_
 go_simp
 refine hK.out _ _ (by first|assumption|exact mk _ ‹_›) fun _=>?_
 clear hK K
 try simp only [puH,List.set]
 refine rdH 23 fun K hK=>?_
 go_simp
 refine hK.out _ _ (by first|assumption|exact mk _ ‹_›) fun _=>?_
 clear hK K
 try simp only [puH,List.set]
 refine rdH 24 fun K hK=>?_
 go_simp
 refine hK.out _ _ (by first|assumption|exact mk _ ‹_›) fun _=>?_
 clear hK K
 try simp only [puH,List.set]
 refine rdH 25 fun K hK=>?_
 go_simp
 refine hK.out _ _ (by first|assumption|exact mk _ ‹_›) fun _=>?_
 clear hK K
 try simp only [puH,List.set]
 refine rdH 26 fun K hK=>?_
 go_simp
 refine hK.out _ _ (by first|assumption|exact mk _ ‹_›) fun _=>?_
 clear hK K
 try simp only [puH,List.set]
 refine rdH 27 fun K hK=>?_
 go_simp
 refine hK.out _ _ (by first|assumption|exact mk _ ‹_›) fun _=>?_
 clear hK K
 try simp only [puH,List.set]
 refine rdH 28 fun K hK=>?_
 go_simp
 refine hK.out _ _ (by first|assumption|exact mk _ ‹_›) fun _=>?_
 clear hK K
 try simp only [puH,List.set]
 refine rdH 29 fun K hK=>?_
 go_simp
 refine hK.out _ _ (by first|assumption|exact mk _ ‹_›) fun _=>?_
 clear hK K
 try simp only [puH,List.set]
 refine rdH 30 fun K hK=>?_
 go_simp
 refine hK.out _ _ (by first|assumption|exact mk _ ‹_›) fun _=>?_
 clear hK K
 try simp only [puH,List.set]
 refine tkH 31 ?_
 try simp only [puH,List.set]
 refine tkH 32 ?_
 try simp only [puH,List.set]
 refine rdH 33 fun K hK=>?_
 go_simp
 refine hK.out _ _ (by first|assumption|exact mk _ ‹_›) fun _=>?_
 clear hK K
 try simp only [puH,List.set]
 refine rdH 34 fun K hK=>?_
 go_simp
 refine hK.out _ _ (by first|assumption|exact mk _ ‹_›) fun _=>?_
 clear hK K
 try simp only [puH,List.set]
 refine tkH 35 ?_
 try simp only [puH,List.set]
 refine tkH 36 ?_
 try simp only [puH,List.set]
 refine rdH 37 fun K hK=>?_
 go_simp
 refine hK.out _ _ (by first|assumption|exact mk _ ‹_›) fun _=>?_
 clear hK K
 try simp only [puH,List.set]
 refine rdH 38 fun K hK=>?_
 go_simp
 refine hK.out _ _ (by first|assumption|exact mk _ ‹_›) fun _=>?_
 clear hK K
 try simp only [puH,List.set]
 refine tkH 39 ?_
 try simp only [puH,List.set]
 refine tkH 40 ?_
 try simp only [puH,List.set]
 refine wpAnyH_done (by kernel_rfl) ?_ _
 refine NoPanic.normal ?_
 clear hun
 go_wp2
 go_ret
 exact ⟨rfl,HB1.out.trans (((Below.refl _ W1).drew.trans hbT).mono HB1.out.size)⟩
theorem shaped_1 (m:Nat) (t:List UInt8) (ns:List (List UInt8)) (ks:Fm) (d:Dt) (nr kr dr:Option Addr) (nc kc dc:Nat) (w:World) (hF:FOk ⟨(m:Int),t,ns,ks,d⟩) (hR:RFo w ⟨(m:Int),t,ns,ks,d⟩ nr kr dr) (hE:Env w) (_hO:ks.oks) (hm0:1≤m) (hm1:m<16) (h1:takesB m ((ks.len:Int)-(valsN ⟨(m:Int),t,ns,ks,d⟩:Int))=true) (h2:(t == [])=false) (h3:hasTextB m=false) :
  Calls Tryz.prog 153 #[frmV ⟨(m:Int),t,ns,ks,d⟩ (.slice nr ns.length nc) (.slice kr ks.len kc) (.slice dr d.s.len dc)] w fun e w' => e = .returned (.bool (false))∧Below w.heap.size w w' := by
 obtain ⟨W1,hW1⟩:∃W1,w.alloc (Z9 ⟨(m:Int),t,ns,ks,d⟩ (.slice nr ns.length nc) (.slice kr ks.len kc) (.slice dr d.s.len dc))=W1:=⟨_,rfl⟩
 have a1:=(Below.refl _ w).alloc (Nat.le_refl w.heap.size) (Z9 ⟨(m:Int),t,ns,ks,d⟩ (.slice nr ns.length nc) (.slice kr ks.len kc) (.slice dr d.s.len dc))
 have q0:=World.alloc_heap_new w (Z9 ⟨(m:Int),t,ns,ks,d⟩ (.slice nr ns.length nc) (.slice kr ks.len kc) (.slice dr d.s.len dc))
 rw [hW1] at a1 q0
 have HB1:Hid (Below w.heap.size w W1):=a1
 have HR1:Hid (RFo W1 ⟨(m:Int),t,ns,ks,d⟩ nr kr dr):=hR.below a1
 have HE1:Hid (Env W1):=hE.below a1
 have HF:Hid (FOk ⟨(m:Int),t,ns,ks,d⟩):=hF
 obtain ⟨⟨z0,z1,z2,z3,z4,z5,z6,z7,z8⟩,_⟩:=cells9 q0
 obtain ⟨s0,s1,s2,s3⟩:=shp_at HE1.out.sl hm0 hm1
 have hwr:IntKind.i64.wrap ((ks.len:Int)-(valsN ⟨(m:Int),t,ns,ks,d⟩:Int))=(ks.len:Int)-(valsN ⟨(m:Int),t,ns,ks,d⟩:Int):=wrapV hF
 have i1:¬ (m:Int)<1:=by omega
 have i3:(m:Int)<16:=by omega
 have i2:¬ (15:Int)<(m:Int):=by omega
 have hmx:Tryz.prog.follows .mixedOrders=true:=by kernel_rfl
 have hb0:Below W1.heap.size W1.drew W1.drew:=Below.refl _ _
 have mk:∀wx,Below W1.heap.size W1.drew wx→(wx.cell? ⟨w.heap.size,0,none⟩=some (.int .u8 m)∧wx.cell? ⟨w.heap.size,1,none⟩=some (S t)∧wx.cell? ⟨w.heap.size,2,none⟩=some (.slice nr ns.length nc)∧wx.cell? ⟨w.heap.size,3,none⟩=some (.slice kr ks.len kc)∧wx.cell? ⟨w.heap.size,4,none⟩=some (.int .u8 d.k)∧wx.cell? ⟨w.heap.size,5,none⟩=some (.int .i64 d.n)∧wx.cell? ⟨w.heap.size,6,none⟩=some (S d.t)∧wx.cell? ⟨w.heap.size,7,none⟩=some (.slice dr d.s.len dc)∧wx.cell? ⟨w.heap.size,8,none⟩=some (.bool d.d))∧(wx.cell? ⟨1,m*4,none⟩=some (S (shpOf m).1)∧wx.cell? ⟨1,m*4+1,none⟩=some (.int .i64 (shpOf m).2.1)∧wx.cell? ⟨1,m*4+1+1,none⟩=some (.int .i64 (shpOf m).2.2.1)∧wx.cell? ⟨1,m*4+1+1+1,none⟩=some (.int .i64 (shpOf m).2.2.2)):=fun wx hb=>⟨keepZ (W:=W1.drew) hb ⟨z0,z1,z2,z3,z4,z5,z6,z7,z8⟩,keepS (W:=W1.drew) hb ⟨s0,s1,s2,s3⟩⟩
 clear a1 q0 hR hE hF
 have HV:Hid (∀wx,Below W1.heap.size W1.drew wx→Calls Tryz.prog 124 #[frmV ⟨(m:Int),t,ns,ks,d⟩ (.slice nr ns.length nc) (.slice kr ks.len kc) (.slice dr d.s.len dc)] wx fun e w' => e = .returned (.int .i64 (valsN ⟨(m:Int),t,ns,ks,d⟩))∧Below wx.heap.size wx w'):=fun wx hb=>valueCount_any ⟨(m:Int),t,ns,ks,d⟩ nr kr dr nc kc dc wx HF.out.nl
 have HT:Hid (∀wx,Below W1.heap.size W1.drew wx→Calls Tryz.prog 149 #[shpV m, .int .i64 ((ks.len:Int)-(valsN ⟨(m:Int),t,ns,ks,d⟩:Int))] wx fun e w' => e = .returned (.bool true)∧Below wx.heap.size wx w'):=fun wx hb=>by rw [←h1];exact takes_any m _ wx
 have HX:Hid (∀wx,Below W1.heap.size W1.drew wx→Calls Tryz.prog 126 #[.int .u8 m] wx fun e w' => e = .returned (.bool false)∧Below wx.heap.size wx w'):=fun wx hb=>by rw [←h3];exact hasText_any m wx
 clear h1 h3
 go_enter Tryz.func153,Tryz.ntmps153
 go_upto_region 1 with fail
 clear hW1
 go_wp2_with fail
 have hun:undef = .tuple #[]:=rfl
 refine wp_region_noPanic ?_
 refine wp_region_held_drew (S:=fun wx=>(wx.cell? ⟨w.heap.size,0,none⟩=some (.int .u8 m)∧wx.cell? ⟨w.heap.size,1,none⟩=some (S t)∧wx.cell? ⟨w.heap.size,2,none⟩=some (.slice nr ns.length nc)∧wx.cell? ⟨w.heap.size,3,none⟩=some (.slice kr ks.len kc)∧wx.cell? ⟨w.heap.size,4,none⟩=some (.int .u8 d.k)∧wx.cell? ⟨w.heap.size,5,none⟩=some (.int .i64 d.n)∧wx.cell? ⟨w.heap.size,6,none⟩=some (S d.t)∧wx.cell? ⟨w.heap.size,7,none⟩=some (.slice dr d.s.len dc)∧wx.cell? ⟨w.heap.size,8,none⟩=some (.bool d.d))∧(wx.cell? ⟨1,m*4,none⟩=some (S (shpOf m).1)∧wx.cell? ⟨1,m*4+1,none⟩=some (.int .i64 (shpOf m).2.1)∧wx.cell? ⟨1,m*4+1+1,none⟩=some (.int .i64 (shpOf m).2.2.1)∧wx.cell? ⟨1,m*4+1+1+1,none⟩=some (.int .i64 (shpOf m).2.2.2))) hmx ?_ (fun hHeld=>?_)
 ·exact mk _ hb0
 refine tkH 0 ?_
 try simp only [puH,List.set]
 refine tkH 1 ?_
 try simp only [puH,List.set]
 refine tkH 2 ?_
 try simp only [puH,List.set]
 refine tkH 3 ?_
 try simp only [puH,List.set]
 refine tkH 4 ?_
 try simp only [puH,List.set]
 refine tkH 5 ?_
 try simp only [puH,List.set]
 refine tkH 6 ?_
 try simp only [puH,List.set]
 refine tkH 7 ?_
 try simp only [puH,List.set]
 refine rdH 8 fun K hK=>?_
 go_simp
 go_at_call 124;refine (HV.out _ hb0).mono ?_;rintro e wV ⟨rfl,hxV⟩;have hbV:Below W1.heap.size W1.drew wV:=hb0.trans (hxV.mono hb0.size);go_wp2_with fail
 refine hK.out _ _ (by first|assumption|exact mk _ ‹_›) fun _=>?_
 clear hK K
 try simp only [puH,List.set]
 refine tkH 9 ?_
 try simp only [puH,List.set]
 refine rdH 10 fun K hK=>?_
 go_simp
 go_at_call 149;refine (HT.out _ hbV).mono ?_;rintro e wT ⟨rfl,hxT⟩;have hbT:Below W1.heap.size W1.drew wT:=hbV.trans (hxT.mono hbV.size);go_wp2_with fail
 refine hK.out _ _ (by first|assumption|exact mk _ ‹_›) fun _=>?_
 clear hK K
 try simp only [puH,List.set]
 refine tkH 11 ?_
 try simp only [puH,List.set]
 refine tkH 12 ?_
 try simp only [puH,List.set]
 refine tkH 13 ?_
 try simp only [puH,List.set]
 refine tkH 14 ?_
 try simp only [puH,List.set]
 refine tkH 15 ?_
 try simp only [puH,List.set]
 refine tkH 16 ?_
 try simp only [puH,List.set]
 refine tkH 17 ?_
 try simp only [puH,List.set]
 refine rdH 18 fun K hK=>?_
 go_simp
 go_at_call 126;refine (HX.out _ hbT).mono ?_;rintro e wX ⟨rfl,hxX⟩;have hbX:Below W1.heap.size W1.drew wX:=hbT.trans (hxX.mono hbT.size);go_wp2_with fail
 refine hK.out _ _ (by first|assumption|exact mk _ ‹_›) fun _=>?_
 clear hK K
 try simp only [puH,List.set]
 refine tkH 19 ?_
 try simp only [puH,List.set]
 refine tkH 20 ?_
 try simp only [puH,List.set]
 refine tkH 21 ?_
 try simp only [puH,List.set]
 refine rdH 22 fun K hK=>?_
 go_simp
 refine hK.out _ _ (by first|assumption|exact mk _ ‹_›) fun _=>?_
 clear hK K
 try simp only [puH,List.set]
 refine rdH 23 fun K hK=>?_
 go_simp
 refine hK.out _ _ (by first|assumption|exact mk _ ‹_›) fun _=>?_
 clear hK K
 try simp only [puH,List.set]
 refine rdH 24 fun K hK=>?_
 go_simp
 refine hK.out _ _ (by first|assumption|exact mk _ ‹_›) fun _=>?_
 clear hK K
 try simp only [puH,List.set]
 refine rdH 25 fun K hK=>?_
 go_simp
 refine hK.out _ _ (by first|assumption|exact mk _ ‹_›) fun _=>?_
 clear hK K
 try simp only [puH,List.set]
 refine rdH 26 fun K hK=>?_
 go_simp
 refine hK.out _ _ (by first|assumption|exact mk _ ‹_›) fun _=>?_
 clear hK K
 try simp only [puH,List.set]
 refine rdH 27 fun K hK=>?_
 go_simp
 refine hK.out _ _ (by first|assumption|exact mk _ ‹_›) fun _=>?_
 clear hK K
 try simp only [puH,List.set]
 refine rdH 28 fun K hK=>?_
 go_simp
 refine hK.out _ _ (by first|assumption|exact mk _ ‹_›) fun _=>?_
 clear hK K
 try simp only [puH,List.set]
 refine rdH 29 fun K hK=>?_
 go_simp
 refine hK.out _ _ (by first|assumption|exact mk _ ‹_›) fun _=>?_
 clear hK K
 try simp only [puH,List.set]
 refine rdH 30 fun K hK=>?_
 go_simp
 refine hK.out _ _ (by first|assumption|exact mk _ ‹_›) fun _=>?_
 clear hK K
 try simp only [puH,List.set]
 refine tkH 31 ?_
 try simp only [puH,List.set]
 refine tkH 32 ?_
 try simp only [puH,List.set]
 refine rdH 33 fun K hK=>?_
 go_simp
 refine hK.out _ _ (by first|assumption|exact mk _ ‹_›) fun _=>?_
 clear hK K
 try simp only [puH,List.set]
 refine rdH 34 fun K hK=>?_
 go_simp
 refine hK.out _ _ (by first|assumption|exact mk _ ‹_›) fun _=>?_
 clear hK K
 try simp only [puH,List.set]
 refine tkH 35 ?_
 try simp only [puH,List.set]
 refine tkH 36 ?_
 try simp only [puH,List.set]
 refine rdH 37 fun K hK=>?_
 go_simp
 refine hK.out _ _ (by first|assumption|exact mk _ ‹_›) fun _=>?_
 clear hK K
 try simp only [puH,List.set]
 refine rdH 38 fun K hK=>?_
 go_simp
 refine hK.out _ _ (by first|assumption|exact mk _ ‹_›) fun _=>?_
 clear hK K
 try simp only [puH,List.set]
 refine tkH 39 ?_
 try simp only [puH,List.set]
 refine tkH 40 ?_
 try simp only [puH,List.set]
 refine wpAnyH_done (by kernel_rfl) ?_ _
 refine NoPanic.normal ?_
 clear hun
 go_wp2
 go_ret
 exact ⟨rfl,HB1.out.trans (((Below.refl _ W1).drew.trans hbX).mono HB1.out.size)⟩
end Go.Proofs.YtkgnigloboajcaaGreatDoor
