/- isShaped, way by way (gen_fshp.py).; isShaped, way by way (gen_fshp.py).; isShaped, way by way (gen_fshp.py). -/
import Derived.Test.YtkgnigloboajcaaGreatDoorK29
import Derived.Shelf.RegionOpenPlain
set_option maxRecDepth 100000
set_option maxHeartbeats 16000000
namespace Go.Proofs.YtkgnigloboajcaaGreatDoor
open Go.RowKit Go.Maps Go.ChangeMaps
theorem shaped_8 (m:Nat) (t:List UInt8) (ks:Fm) (d:Dt) (nr kr dr:Option Addr) (nc kc dc:Nat) (w:World) (hF:FOk ⟨(m:Int),t,[],ks,d⟩) (hR:RFo w ⟨(m:Int),t,[],ks,d⟩ nr kr dr) (hE:Env w) (_hO:ks.oks) (hm0:1≤m) (hm1:m<16) (h1:takesB m ((ks.len:Int)-(valsN ⟨(m:Int),t,[],ks,d⟩:Int))=true) (h2:(t == [])=false) (h3:hasTextB m=true) (h6:datFitB ⟨(m:Int),t,[],ks,d⟩=false) :
  Calls Tryz.prog 153 #[frmV ⟨(m:Int),t,[],ks,d⟩ (.slice nr 0 nc) (.slice kr ks.len kc) (.slice dr d.s.len dc)] w fun e w' => e = .returned (.bool (false))∧Below w.heap.size w w' := by
 obtain ⟨W1,hW1⟩:∃W1,w.alloc (Z9 ⟨(m:Int),t,[],ks,d⟩ (.slice nr 0 nc) (.slice kr ks.len kc) (.slice dr d.s.len dc))=W1:=⟨_,rfl⟩
 have a1:=(Below.refl _ w).alloc (Nat.le_refl w.heap.size) (Z9 ⟨(m:Int),t,[],ks,d⟩ (.slice nr 0 nc) (.slice kr ks.len kc) (.slice dr d.s.len dc))
 have q0:=World.alloc_heap_new w (Z9 ⟨(m:Int),t,[],ks,d⟩ (.slice nr 0 nc) (.slice kr ks.len kc) (.slice dr d.s.len dc))
 rw [hW1] at a1 q0
 have HB1:Hid (Below w.heap.size w W1):=a1
 have HR1:Hid (RFo W1 ⟨(m:Int),t,[],ks,d⟩ nr kr dr):=hR.below a1
 have HE1:Hid (Env W1):=hE.below a1
 have HF:Hid (FOk ⟨(m:Int),t,[],ks,d⟩):=hF
 obtain ⟨⟨z0,z1,z2,z3,z4,z5,z6,z7,z8⟩,_⟩:=cells9 q0
 obtain ⟨s0,s1,s2,s3⟩:=shp_at HE1.out.sl hm0 hm1
 have hwr:IntKind.i64.wrap ((ks.len:Int)-(valsN ⟨(m:Int),t,[],ks,d⟩:Int))=(ks.len:Int)-(valsN ⟨(m:Int),t,[],ks,d⟩:Int):=wrapV hF
 have i1:¬ (m:Int)<1:=by omega
 have i3:(m:Int)<16:=by omega
 have i2:¬ (15:Int)<(m:Int):=by omega
 have hmx:Tryz.prog.follows .mixedOrders=true:=by kernel_rfl
 have hb0:Below W1.heap.size W1.drew W1.drew:=Below.refl _ _
 have mk:∀wx,Below W1.heap.size W1.drew wx→(wx.cell? ⟨w.heap.size,0,none⟩=some (.int .u8 m)∧wx.cell? ⟨w.heap.size,1,none⟩=some (S t)∧wx.cell? ⟨w.heap.size,2,none⟩=some (.slice nr 0 nc)∧wx.cell? ⟨w.heap.size,3,none⟩=some (.slice kr ks.len kc)∧wx.cell? ⟨w.heap.size,4,none⟩=some (.int .u8 d.k)∧wx.cell? ⟨w.heap.size,5,none⟩=some (.int .i64 d.n)∧wx.cell? ⟨w.heap.size,6,none⟩=some (S d.t)∧wx.cell? ⟨w.heap.size,7,none⟩=some (.slice dr d.s.len dc)∧wx.cell? ⟨w.heap.size,8,none⟩=some (.bool d.d))∧(wx.cell? ⟨1,m*4,none⟩=some (S (shpOf m).1)∧wx.cell? ⟨1,m*4+1,none⟩=some (.int .i64 (shpOf m).2.1)∧wx.cell? ⟨1,m*4+1+1,none⟩=some (.int .i64 (shpOf m).2.2.1)∧wx.cell? ⟨1,m*4+1+1+1,none⟩=some (.int .i64 (shpOf m).2.2.2)):=fun wx hb=>⟨keepZ (W:=W1.drew) hb ⟨z0,z1,z2,z3,z4,z5,z6,z7,z8⟩,keepS (W:=W1.drew) hb ⟨s0,s1,s2,s3⟩⟩
 clear a1 q0 hR hE hF
 have HV:Hid (∀wx,Below W1.heap.size W1.drew wx→Calls Tryz.prog 124 #[frmV ⟨(m:Int),t,[],ks,d⟩ (.slice nr 0 nc) (.slice kr ks.len kc) (.slice dr d.s.len dc)] wx fun e w' => e = .returned (.int .i64 (valsN ⟨(m:Int),t,[],ks,d⟩))∧Below wx.heap.size wx w'):=fun wx hb=>valueCount_any ⟨(m:Int),t,[],ks,d⟩ nr kr dr nc kc dc wx HF.out.nl
 have HT:Hid (∀wx,Below W1.heap.size W1.drew wx→Calls Tryz.prog 149 #[shpV m, .int .i64 ((ks.len:Int)-(valsN ⟨(m:Int),t,[],ks,d⟩:Int))] wx fun e w' => e = .returned (.bool true)∧Below wx.heap.size wx w'):=fun wx hb=>by rw [←h1];exact takes_any m _ wx
 have HX:Hid (∀wx,Below W1.heap.size W1.drew wx→Calls Tryz.prog 126 #[.int .u8 m] wx fun e w' => e = .returned (.bool true)∧Below wx.heap.size wx w'):=fun wx hb=>by rw [←h3];exact hasText_any m wx
 have HD:Hid (∀wx,Below W1.heap.size W1.drew wx→Calls Tryz.prog 174 #[frmV ⟨(m:Int),t,[],ks,d⟩ (.slice nr 0 nc) (.slice kr ks.len kc) (.slice dr d.s.len dc)] wx fun e w' => e = .returned (.bool false)∧Below wx.heap.size wx w'):=fun wx hb=>by rw [←h6];exact datFit_of ⟨(m:Int),t,[],ks,d⟩ nr kr dr nc kc dc wx HF.out (HR1.out.below (below_of hb)) (HE1.out.below (below_of hb))
 clear h1 h3 h6
 go_enter Tryz.func153,Tryz.ntmps153
 go_upto_region 1 with fail
 clear hW1
 go_wp2_with fail
 have hun:undef = .tuple #[]:=rfl
 refine wp_region_noPanic ?_
 refine wp_region_held_drew (S:=fun wx=>(wx.cell? ⟨w.heap.size,0,none⟩=some (.int .u8 m)∧wx.cell? ⟨w.heap.size,1,none⟩=some (S t)∧wx.cell? ⟨w.heap.size,2,none⟩=some (.slice nr 0 nc)∧wx.cell? ⟨w.heap.size,3,none⟩=some (.slice kr ks.len kc)∧wx.cell? ⟨w.heap.size,4,none⟩=some (.int .u8 d.k)∧wx.cell? ⟨w.heap.size,5,none⟩=some (.int .i64 d.n)∧wx.cell? ⟨w.heap.size,6,none⟩=some (S d.t)∧wx.cell? ⟨w.heap.size,7,none⟩=some (.slice dr d.s.len dc)∧wx.cell? ⟨w.heap.size,8,none⟩=some (.bool d.d))∧(wx.cell? ⟨1,m*4,none⟩=some (S (shpOf m).1)∧wx.cell? ⟨1,m*4+1,none⟩=some (.int .i64 (shpOf m).2.1)∧wx.cell? ⟨1,m*4+1+1,none⟩=some (.int .i64 (shpOf m).2.2.1)∧wx.cell? ⟨1,m*4+1+1+1,none⟩=some (.int .i64 (shpOf m).2.2.2))) hmx ?_ (fun hHeld=>?_)
 ·exact mk _ hb0
 refine tkH 0 ?_
 try simp only [puH,List.set]
 refine tkH 1 ?_
 try simp only [puH,List.set]
 refine tkH 2 ?_
 try simp only [puH,List.set]
 refine tkH 3 ?_
 try simp only [puH,List.set]
 refine tkH 4 ?_
 try simp only [puH,List.set]
 refine tkH 5 ?_
 try simp only [puH,List.set]
 refine tkH 6 ?_
 try simp only [puH,List.set]
 refine tkH 7 ?_
 try simp only [puH,List.set]
 refine rdH 8 fun K hK=>?_
 go_simp
 go_at_call 124;refine (HV.out _ hb0).mono ?_;rintro e wV ⟨rfl,hxV⟩;have hbV:Below W1.heap.size W1.drew wV:=hb0.trans (hxV.mono hb0.size);go_wp2_with fail
 refine hK.out _ _ (by first|assumption|exact mk _ ‹_›) fun _=>?_
 clear hK K
 try simp only [puH,List.set]
 refine tkH 9 ?_
 try simp only [puH,List.set]
 refine rdH 10 fun K hK=>?_
 go_simp
 go_at_call 149;refine (HT.out _ hbV).mono ?_;rintro e wT ⟨rfl,hxT⟩;have hbT:Below W1.heap.size W1.drew wT:=hbV.trans (hxT.mono hbV.size);go_wp2_with fail
 refine hK.out _ _ (by first|assumption|exact mk _ ‹_›) fun _=>?_
 clear hK K
 try simp only [puH,List.set]
 refine tkH 11 ?_
 try simp only [puH,List.set]
 refine tkH 12 ?_
 try simp only [puH,List.set]
 refine tkH 13 ?_
 try simp only [puH,List.set]
 refine tkH 14 ?_
 try simp only [puH,List.set]
 refine tkH 15 ?_
 try simp only [puH,List.set]
 refine tkH 16 ?_
 try simp only [puH,List.set]
 refine tkH 17 ?_
 try simp only [puH,List.set]
 refine rdH 18 fun K hK=>?_
 go_simp
 go_at_call 126;refine (HX.out _ hbT).mono ?_;rintro e wX ⟨rfl,hxX⟩;have hbX:Below W1.heap.size W1.drew wX:=hbT.trans (hxX.mono hbT.size);go_wp2_with fail
 refine hK.out _ _ (by first|assumption|exact mk _ ‹_›) fun _=>?_
 clear hK K
 try simp only [puH,List.set]
 refine tkH 19 ?_
 try simp only [puH,List.set]
 refine tkH 20 ?_
 try simp only [puH,List.set]
 refine tkH 21 ?_
 try simp only [puH,List.set]
 refine tkH 22 ?_
 try simp only [puH,List.set]
 refine tkH 23 ?_
 try simp only [puH,List.set]
 refine tkH 24 ?_
 try simp only [puH,List.set]
 refine tkH 25 ?_
 try simp only [puH,List.set]
 refine tkH 26 ?_
 try simp only [puH,List.set]
 refine rdH 27 fun K hK=>?_
 go_simp
 refine hK.out _ _ (by first|assumption|exact mk _ ‹_›) fun _=>?_
 clear hK K
 try simp only [puH,List.set]
 refine rdH 28 fun K hK=>?_
 go_simp
 refine hK.out _ _ (by first|assumption|exact mk _ ‹_›) fun _=>?_
 clear hK K
 try simp only [puH,List.set]
 refine rdH 29 fun K hK=>?_
 go_simp
 refine hK.out _ _ (by first|assumption|exact mk _ ‹_›) fun _=>?_
 clear hK K
 try simp only [puH,List.set]
 refine tkH 30 ?_
 try simp only [puH,List.set]
 refine tkH 31 ?_
 try simp only [puH,List.set]
 refine tkH 32 ?_
 try simp only [puH,List.set]
 refine tkH 33 ?_
 try simp only [puH,List.set]
 refine rdH 34 fun K hK=>?_
 go_simp
 go_at_call 174;refine (HD.out _ hbX).mono ?_;rintro e wD ⟨rfl,hxD⟩;have hbD:Below W1.heap.size W1.drew wD:=hbX.trans (hxD.mono hbX.size);go_wp2_with fail
 refine hK.out _ _ (by first|assumption|exact mk _ ‹_›) fun _=>?_
 clear hK K
 try simp only [puH,List.set]
 refine tkH 35 ?_
 try simp only [puH,List.set]
 refine tkH 36 ?_
 try simp only [puH,List.set]
 refine rdH 37 fun K hK=>?_
 go_simp
 refine hK.out _ _ (by first|assumption|exact mk _ ‹_›) fun _=>?_
 clear hK K
 try simp only [puH,List.set]
 refine rdH 38 fun K hK=>?_
 go_simp
 refine hK.out _ _ (by first|assumption|exact mk _ ‹_›) fun _=>?_
 clear hK K
 try simp only [puH,List.set]
 refine tkH 39 ?_
 try simp only [puH,List.set]
 refine tkH 40 ?_
 try simp only [puH,List.set]
 refine wpAnyH_done (by kernel_rfl) ?_ _
 refine NoPanic.normal ?_
 clear hun
 go_wp2
 go_ret
 exact ⟨rfl,HB1.out.trans (((Below.refl _ W1).drew.trans hbD).mono HB1.out.size)⟩
theorem shaped_9 (m:Nat) (t:List UInt8) (ks:Fm) (d:Dt) (nr kr dr:Option Addr) (nc kc dc:Nat) (w:World) (hF:FOk ⟨(m:Int),t,[],ks,d⟩) (hR:RFo w ⟨(m:Int),t,[],ks,d⟩ nr kr dr) (hE:Env w) (hO:ks.oks) (hm0:1≤m) (hm1:m<16) (h1:takesB m ((ks.len:Int)-(valsN ⟨(m:Int),t,[],ks,d⟩:Int))=true) (h2:(t == [])=false) (h3:hasTextB m=true) (h6:datFitB ⟨(m:Int),t,[],ks,d⟩=true) :
  Calls Tryz.prog 153 #[frmV ⟨(m:Int),t,[],ks,d⟩ (.slice nr 0 nc) (.slice kr ks.len kc) (.slice dr d.s.len dc)] w fun e w' => e = .returned (.bool (callFitB ⟨(m:Int),t,[],ks,d⟩))∧Below w.heap.size w w' := by
 obtain ⟨W1,hW1⟩:∃W1,w.alloc (Z9 ⟨(m:Int),t,[],ks,d⟩ (.slice nr 0 nc) (.slice kr ks.len kc) (.slice dr d.s.len dc))=W1:=⟨_,rfl⟩
 have a1:=(Below.refl _ w).alloc (Nat.le_refl w.heap.size) (Z9 ⟨(m:Int),t,[],ks,d⟩ (.slice nr 0 nc) (.slice kr ks.len kc) (.slice dr d.s.len dc))
 have q0:=World.alloc_heap_new w (Z9 ⟨(m:Int),t,[],ks,d⟩ (.slice nr 0 nc) (.slice kr ks.len kc) (.slice dr d.s.len dc))
 rw [hW1] at a1 q0
 have HB1:Hid (Below w.heap.size w W1):=a1
 have HR1:Hid (RFo W1 ⟨(m:Int),t,[],ks,d⟩ nr kr dr):=hR.below a1
 have HE1:Hid (Env W1):=hE.below a1
 have HF:Hid (FOk ⟨(m:Int),t,[],ks,d⟩):=hF
 obtain ⟨⟨z0,z1,z2,z3,z4,z5,z6,z7,z8⟩,_⟩:=cells9 q0
 obtain ⟨s0,s1,s2,s3⟩:=shp_at HE1.out.sl hm0 hm1
 have hwr:IntKind.i64.wrap ((ks.len:Int)-(valsN ⟨(m:Int),t,[],ks,d⟩:Int))=(ks.len:Int)-(valsN ⟨(m:Int),t,[],ks,d⟩:Int):=wrapV hF
 have i1:¬ (m:Int)<1:=by omega
 have i3:(m:Int)<16:=by omega
 have i2:¬ (15:Int)<(m:Int):=by omega
 have hmx:Tryz.prog.follows .mixedOrders=true:=by kernel_rfl
 have hb0:Below W1.heap.size W1.drew W1.drew:=Below.refl _ _
 have mk:∀wx,Below W1.heap.size W1.drew wx→(wx.cell? ⟨w.heap.size,0,none⟩=some (.int .u8 m)∧wx.cell? ⟨w.heap.size,1,none⟩=some (S t)∧wx.cell? ⟨w.heap.size,2,none⟩=some (.slice nr 0 nc)∧wx.cell? ⟨w.heap.size,3,none⟩=some (.slice kr ks.len kc)∧wx.cell? ⟨w.heap.size,4,none⟩=some (.int .u8 d.k)∧wx.cell? ⟨w.heap.size,5,none⟩=some (.int .i64 d.n)∧wx.cell? ⟨w.heap.size,6,none⟩=some (S d.t)∧wx.cell? ⟨w.heap.size,7,none⟩=some (.slice dr d.s.len dc)∧wx.cell? ⟨w.heap.size,8,none⟩=some (.bool d.d))∧(wx.cell? ⟨1,m*4,none⟩=some (S (shpOf m).1)∧wx.cell? ⟨1,m*4+1,none⟩=some (.int .i64 (shpOf m).2.1)∧wx.cell? ⟨1,m*4+1+1,none⟩=some (.int .i64 (shpOf m).2.2.1)∧wx.cell? ⟨1,m*4+1+1+1,none⟩=some (.int .i64 (shpOf m).2.2.2)):=fun wx hb=>⟨keepZ (W:=W1.drew) hb ⟨z0,z1,z2,z3,z4,z5,z6,z7,z8⟩,keepS (W:=W1.drew) hb ⟨s0,s1,s2,s3⟩⟩
 clear a1 q0 hR hE hF
 have Hne:Hid ((m:Int)=10→ks.len≠0):=fun h10=>takes_ten (m:=m) (by omega) (by rw [show valsN ⟨(m:Int),t,[],ks,d⟩=0 by unfold valsN;rw [if_neg (by show ¬ (m:Int)=8;omega)]];simp) h1
 have HV:Hid (∀wx,Below W1.heap.size W1.drew wx→Calls Tryz.prog 124 #[frmV ⟨(m:Int),t,[],ks,d⟩ (.slice nr 0 nc) (.slice kr ks.len kc) (.slice dr d.s.len dc)] wx fun e w' => e = .returned (.int .i64 (valsN ⟨(m:Int),t,[],ks,d⟩))∧Below wx.heap.size wx w'):=fun wx hb=>valueCount_any ⟨(m:Int),t,[],ks,d⟩ nr kr dr nc kc dc wx HF.out.nl
 have HT:Hid (∀wx,Below W1.heap.size W1.drew wx→Calls Tryz.prog 149 #[shpV m, .int .i64 ((ks.len:Int)-(valsN ⟨(m:Int),t,[],ks,d⟩:Int))] wx fun e w' => e = .returned (.bool true)∧Below wx.heap.size wx w'):=fun wx hb=>by rw [←h1];exact takes_any m _ wx
 have HX:Hid (∀wx,Below W1.heap.size W1.drew wx→Calls Tryz.prog 126 #[.int .u8 m] wx fun e w' => e = .returned (.bool true)∧Below wx.heap.size wx w'):=fun wx hb=>by rw [←h3];exact hasText_any m wx
 have HD:Hid (∀wx,Below W1.heap.size W1.drew wx→Calls Tryz.prog 174 #[frmV ⟨(m:Int),t,[],ks,d⟩ (.slice nr 0 nc) (.slice kr ks.len kc) (.slice dr d.s.len dc)] wx fun e w' => e = .returned (.bool true)∧Below wx.heap.size wx w'):=fun wx hb=>by rw [←h6];exact datFit_of ⟨(m:Int),t,[],ks,d⟩ nr kr dr nc kc dc wx HF.out (HR1.out.below (below_of hb)) (HE1.out.below (below_of hb))
 have HC:Hid (∀wx,Below W1.heap.size W1.drew wx→Calls Tryz.prog 175 #[frmV ⟨(m:Int),t,[],ks,d⟩ (.slice nr 0 nc) (.slice kr ks.len kc) (.slice dr d.s.len dc)] wx fun e w' => e = .returned (.bool (callFitB ⟨(m:Int),t,[],ks,d⟩))∧Below wx.heap.size wx w'):=fun wx hb=>callFit_of ⟨(m:Int),t,[],ks,d⟩ nr kr dr nc kc dc wx HF.out (HR1.out.below (below_of hb)) (HE1.out.below (below_of hb)) hO Hne.out
 clear h1 h3 h6
 go_enter Tryz.func153,Tryz.ntmps153
 go_upto_region 1 with fail
 clear hW1
 go_wp2_with fail
 have hun:undef = .tuple #[]:=rfl
 refine wp_region_noPanic ?_
 refine wp_region_held_drew (S:=fun wx=>(wx.cell? ⟨w.heap.size,0,none⟩=some (.int .u8 m)∧wx.cell? ⟨w.heap.size,1,none⟩=some (S t)∧wx.cell? ⟨w.heap.size,2,none⟩=some (.slice nr 0 nc)∧wx.cell? ⟨w.heap.size,3,none⟩=some (.slice kr ks.len kc)∧wx.cell? ⟨w.heap.size,4,none⟩=some (.int .u8 d.k)∧wx.cell? ⟨w.heap.size,5,none⟩=some (.int .i64 d.n)∧wx.cell? ⟨w.heap.size,6,none⟩=some (S d.t)∧wx.cell? ⟨w.heap.size,7,none⟩=some (.slice dr d.s.len dc)∧wx.cell? ⟨w.heap.size,8,none⟩=some (.bool d.d))∧(wx.cell? ⟨1,m*4,none⟩=some (S (shpOf m).1)∧wx.cell? ⟨1,m*4+1,none⟩=some (.int .i64 (shpOf m).2.1)∧wx.cell? ⟨1,m*4+1+1,none⟩=some (.int .i64 (shpOf m).2.2.1)∧wx.cell? ⟨1,m*4+1+1+1,none⟩=some (.int .i64 (shpOf m).2.2.2))) hmx ?_ (fun hHeld=>?_)
 ·exact mk _ hb0
 refine tkH 0 ?_
 try simp only [puH,List.set]
 refine tkH 1 ?_
 try simp only [puH,List.set]
 refine tkH 2 ?_
 try simp only [puH,List.set]
 refine tkH 3 ?_
 try simp only [puH,List.set]
 refine tkH 4 ?_
 try simp only [puH,List.set]
 refine tkH 5 ?_
 try simp only [puH,List.set]
 refine tkH 6 ?_
 try simp only [puH,List.set]
 refine tkH 7 ?_
 try simp only [puH,List.set]
 refine rdH 8 fun K hK=>?_
 go_simp
 go_at_call 124;refine (HV.out _ hb0).mono ?_;rintro e wV ⟨rfl,hxV⟩;have hbV:Below W1.heap.size W1.drew wV:=hb0.trans (hxV.mono hb0.size);go_wp2_with fail
 refine hK.out _ _ (by first|assumption|exact mk _ ‹_›) fun _=>?_
 clear hK K
 try simp only [puH,List.set]
 refine tkH 9 ?_
 try simp only [puH,List.set]
 refine rdH 10 fun K hK=>?_
 go_simp
 go_at_call 149;refine (HT.out _ hbV).mono ?_;rintro e wT ⟨rfl,hxT⟩;have hbT:Below W1.heap.size W1.drew wT:=hbV.trans (hxT.mono hbV.size);go_wp2_with fail
 refine hK.out _ _ (by first|assumption|exact mk _ ‹_›) fun _=>?_
 clear hK K
 try simp only [puH,List.set]
 refine tkH 11 ?_
 try simp only [puH,List.set]
 refine tkH 12 ?_
 try simp only [puH,List.set]
 refine tkH 13 ?_
 try simp only [puH,List.set]
 refine tkH 14 ?_
 try simp only [puH,List.set]
 refine tkH 15 ?_
 try simp only [puH,List.set]
 refine tkH 16 ?_
 try simp only [puH,List.set]
 refine tkH 17 ?_
 try simp only [puH,List.set]
 refine rdH 18 fun K hK=>?_
 go_simp
 go_at_call 126;refine (HX.out _ hbT).mono ?_;rintro e wX ⟨rfl,hxX⟩;have hbX:Below W1.heap.size W1.drew wX:=hbT.trans (hxX.mono hbT.size);go_wp2_with fail
 refine hK.out _ _ (by first|assumption|exact mk _ ‹_›) fun _=>?_
 clear hK K
 try simp only [puH,List.set]
 refine tkH 19 ?_
 try simp only [puH,List.set]
 refine tkH 20 ?_
 try simp only [puH,List.set]
 refine tkH 21 ?_
 try simp only [puH,List.set]
 refine tkH 22 ?_
 try simp only [puH,List.set]
 refine tkH 23 ?_
 try simp only [puH,List.set]
 refine tkH 24 ?_
 try simp only [puH,List.set]
 refine tkH 25 ?_
 try simp only [puH,List.set]
 refine tkH 26 ?_
 try simp only [puH,List.set]
 refine rdH 27 fun K hK=>?_
 go_simp
 refine hK.out _ _ (by first|assumption|exact mk _ ‹_›) fun _=>?_
 clear hK K
 try simp only [puH,List.set]
 refine rdH 28 fun K hK=>?_
 go_simp
 refine hK.out _ _ (by first|assumption|exact mk _ ‹_›) fun _=>?_
 clear hK K
 try simp only [puH,List.set]
 refine rdH 29 fun K hK=>?_
 go_simp
 refine hK.out _ _ (by first|assumption|exact mk _ ‹_›) fun _=>?_
 clear hK K
 try simp only [puH,List.set]
 refine tkH 30 ?_
 try simp only [puH,List.set]
 refine tkH 31 ?_
 try simp only [puH,List.set]
 refine tkH 32 ?_
 try simp only [puH,List.set]
 refine tkH 33 ?_
 try simp only [puH,List.set]
 refine rdH 34 fun K hK=>?_
 go_simp
 go_at_call 174;refine (HD.out _ hbX).mono ?_;rintro e wD ⟨rfl,hxD⟩;have hbD:Below W1.heap.size W1.drew wD:=hbX.trans (hxD.mono hbX.size);go_wp2_with fail
 refine hK.out _ _ (by first|assumption|exact mk _ ‹_›) fun _=>?_
 clear hK K
 try simp only [puH,List.set]
 refine tkH 35 ?_
 try simp only [puH,List.set]
 refine tkH 36 ?_
 try simp only [puH,List.set]
 refine tkH 37 ?_
 try simp only [puH,List.set]
 refine rdH 38 fun K hK=>?_
 go_simp
 go_at_call 175;refine (HC.out _ hbD).mono ?_;rintro e wC ⟨rfl,hxC⟩;have hbC:Below W1.heap.size W1.drew wC:=hbD.trans (hxC.mono hbD.size);go_wp2_with fail
 refine hK.out _ _ (by first|assumption|exact mk _ ‹_›) fun _=>?_
 clear hK K
 try simp only [puH,List.set]
 refine tkH 39 ?_
 try simp only [puH,List.set]
 refine tkH 40 ?_
 try simp only [puH,List.set]
 refine wpAnyH_done (by kernel_rfl) ?_ _
 refine NoPanic.normal ?_
 clear hun
 go_wp2
 go_ret
 exact ⟨rfl,HB1.out.trans (((Below.refl _ W1).drew.trans hbC).mono HB1.out.size)⟩
theorem shaped_10 (m:Nat) (t:List UInt8) (ns:List (List UInt8)) (ks:Fm) (d:Dt) (nr kr dr:Option Addr) (nc kc dc:Nat) (w:World) (hF:FOk ⟨(m:Int),t,ns,ks,d⟩) (hR:RFo w ⟨(m:Int),t,ns,ks,d⟩ nr kr dr) (hE:Env w) (_hO:ks.oks) (hm0:1≤m) (hm1:m<16) (h1:takesB m ((ks.len:Int)-(valsN ⟨(m:Int),t,ns,ks,d⟩:Int))=true) (h2:(t == [])=false) (h3:hasTextB m=true) (h4:ns.length≠0) (h5:hasNamesB m=true) (h6:datFitB ⟨(m:Int),t,ns,ks,d⟩=false) :
  Calls Tryz.prog 153 #[frmV ⟨(m:Int),t,ns,ks,d⟩ (.slice nr ns.length nc) (.slice kr ks.len kc) (.slice dr d.s.len dc)] w fun e w' => e = .returned (.bool (false))∧Below w.heap.size w w' := by
 obtain ⟨W1,hW1⟩:∃W1,w.alloc (Z9 ⟨(m:Int),t,ns,ks,d⟩ (.slice nr ns.length nc) (.slice kr ks.len kc) (.slice dr d.s.len dc))=W1:=⟨_,rfl⟩
 have a1:=(Below.refl _ w).alloc (Nat.le_refl w.heap.size) (Z9 ⟨(m:Int),t,ns,ks,d⟩ (.slice nr ns.length nc) (.slice kr ks.len kc) (.slice dr d.s.len dc))
 have q0:=World.alloc_heap_new w (Z9 ⟨(m:Int),t,ns,ks,d⟩ (.slice nr ns.length nc) (.slice kr ks.len kc) (.slice dr d.s.len dc))
 rw [hW1] at a1 q0
 have HB1:Hid (Below w.heap.size w W1):=a1
 have HR1:Hid (RFo W1 ⟨(m:Int),t,ns,ks,d⟩ nr kr dr):=hR.below a1
 have HE1:Hid (Env W1):=hE.below a1
 have HF:Hid (FOk ⟨(m:Int),t,ns,ks,d⟩):=hF
 obtain ⟨⟨z0,z1,z2,z3,z4,z5,z6,z7,z8⟩,_⟩:=cells9 q0
 obtain ⟨s0,s1,s2,s3⟩:=shp_at HE1.out.sl hm0 hm1
 have hwr:IntKind.i64.wrap ((ks.len:Int)-(valsN ⟨(m:Int),t,ns,ks,d⟩:Int))=(ks.len:Int)-(valsN ⟨(m:Int),t,ns,ks,d⟩:Int):=wrapV hF
 have i1:¬ (m:Int)<1:=by omega
 have i3:(m:Int)<16:=by omega
 have i2:¬ (15:Int)<(m:Int):=by omega
 have hmx:Tryz.prog.follows .mixedOrders=true:=by kernel_rfl
 have hb0:Below W1.heap.size W1.drew W1.drew:=Below.refl _ _
 have mk:∀wx,Below W1.heap.size W1.drew wx→(wx.cell? ⟨w.heap.size,0,none⟩=some (.int .u8 m)∧wx.cell? ⟨w.heap.size,1,none⟩=some (S t)∧wx.cell? ⟨w.heap.size,2,none⟩=some (.slice nr ns.length nc)∧wx.cell? ⟨w.heap.size,3,none⟩=some (.slice kr ks.len kc)∧wx.cell? ⟨w.heap.size,4,none⟩=some (.int .u8 d.k)∧wx.cell? ⟨w.heap.size,5,none⟩=some (.int .i64 d.n)∧wx.cell? ⟨w.heap.size,6,none⟩=some (S d.t)∧wx.cell? ⟨w.heap.size,7,none⟩=some (.slice dr d.s.len dc)∧wx.cell? ⟨w.heap.size,8,none⟩=some (.bool d.d))∧(wx.cell? ⟨1,m*4,none⟩=some (S (shpOf m).1)∧wx.cell? ⟨1,m*4+1,none⟩=some (.int .i64 (shpOf m).2.1)∧wx.cell? ⟨1,m*4+1+1,none⟩=some (.int .i64 (shpOf m).2.2.1)∧wx.cell? ⟨1,m*4+1+1+1,none⟩=some (.int .i64 (shpOf m).2.2.2)):=fun wx hb=>⟨keepZ (W:=W1.drew) hb ⟨z0,z1,z2,z3,z4,z5,z6,z7,z8⟩,keepS (W:=W1.drew) hb ⟨s0,s1,s2,s3⟩⟩
 clear a1 q0 hR hE hF
 have HV:Hid (∀wx,Below W1.heap.size W1.drew wx→Calls Tryz.prog 124 #[frmV ⟨(m:Int),t,ns,ks,d⟩ (.slice nr ns.length nc) (.slice kr ks.len kc) (.slice dr d.s.len dc)] wx fun e w' => e = .returned (.int .i64 (valsN ⟨(m:Int),t,ns,ks,d⟩))∧Below wx.heap.size wx w'):=fun wx hb=>valueCount_any ⟨(m:Int),t,ns,ks,d⟩ nr kr dr nc kc dc wx HF.out.nl
 have HT:Hid (∀wx,Below W1.heap.size W1.drew wx→Calls Tryz.prog 149 #[shpV m, .int .i64 ((ks.len:Int)-(valsN ⟨(m:Int),t,ns,ks,d⟩:Int))] wx fun e w' => e = .returned (.bool true)∧Below wx.heap.size wx w'):=fun wx hb=>by rw [←h1];exact takes_any m _ wx
 have HX:Hid (∀wx,Below W1.heap.size W1.drew wx→Calls Tryz.prog 126 #[.int .u8 m] wx fun e w' => e = .returned (.bool true)∧Below wx.heap.size wx w'):=fun wx hb=>by rw [←h3];exact hasText_any m wx
 have HN:Hid (∀wx,Below W1.heap.size W1.drew wx→Calls Tryz.prog 173 #[.int .u8 m] wx fun e w' => e = .returned (.bool true)∧Below wx.heap.size wx w'):=fun wx hb=>by rw [←h5];exact hasNames_any m wx
 have HD:Hid (∀wx,Below W1.heap.size W1.drew wx→Calls Tryz.prog 174 #[frmV ⟨(m:Int),t,ns,ks,d⟩ (.slice nr ns.length nc) (.slice kr ks.len kc) (.slice dr d.s.len dc)] wx fun e w' => e = .returned (.bool false)∧Below wx.heap.size wx w'):=fun wx hb=>by rw [←h6];exact datFit_of ⟨(m:Int),t,ns,ks,d⟩ nr kr dr nc kc dc wx HF.out (HR1.out.below (below_of hb)) (HE1.out.below (below_of hb))
 clear h1 h3 h5 h6
 generalize ns.length=n4 at *
 have h4i:((n4:Int) == 0)=false:=by simp;omega
 go_enter Tryz.func153,Tryz.ntmps153
 go_upto_region 1 with fail
 clear hW1
 go_wp2_with fail
 have hun:undef = .tuple #[]:=rfl
 refine wp_region_noPanic ?_
 refine wp_region_held_drew (S:=fun wx=>(wx.cell? ⟨w.heap.size,0,none⟩=some (.int .u8 m)∧wx.cell? ⟨w.heap.size,1,none⟩=some (S t)∧wx.cell? ⟨w.heap.size,2,none⟩=some (.slice nr n4 nc)∧wx.cell? ⟨w.heap.size,3,none⟩=some (.slice kr ks.len kc)∧wx.cell? ⟨w.heap.size,4,none⟩=some (.int .u8 d.k)∧wx.cell? ⟨w.heap.size,5,none⟩=some (.int .i64 d.n)∧wx.cell? ⟨w.heap.size,6,none⟩=some (S d.t)∧wx.cell? ⟨w.heap.size,7,none⟩=some (.slice dr d.s.len dc)∧wx.cell? ⟨w.heap.size,8,none⟩=some (.bool d.d))∧(wx.cell? ⟨1,m*4,none⟩=some (S (shpOf m).1)∧wx.cell? ⟨1,m*4+1,none⟩=some (.int .i64 (shpOf m).2.1)∧wx.cell? ⟨1,m*4+1+1,none⟩=some (.int .i64 (shpOf m).2.2.1)∧wx.cell? ⟨1,m*4+1+1+1,none⟩=some (.int .i64 (shpOf m).2.2.2))) hmx ?_ (fun hHeld=>?_)
 ·exact mk _ hb0
 refine tkH 0 ?_
 try simp only [puH,List.set]
 refine tkH 1 ?_
 try simp only [puH,List.set]
 refine tkH 2 ?_
 try simp only [puH,List.set]
 refine tkH 3 ?_
 try simp only [puH,List.set]
 refine tkH 4 ?_
 try simp only [puH,List.set]
 refine tkH 5 ?_
 try simp only [puH,List.set]
 refine tkH 6 ?_
 try simp only [puH,List.set]
 refine tkH 7 ?_
 try simp only [puH,List.set]
 refine rdH 8 fun K hK=>?_
 go_simp
 go_at_call 124;refine (HV.out _ hb0).mono ?_;rintro e wV ⟨rfl,hxV⟩;have hbV:Below W1.heap.size W1.drew wV:=hb0.trans (hxV.mono hb0.size);go_wp2_with fail
 refine hK.out _ _ (by first|assumption|exact mk _ ‹_›) fun _=>?_
 clear hK K
 try simp only [puH,List.set]
 refine tkH 9 ?_
 try simp only [puH,List.set]
 refine rdH 10 fun K hK=>?_
 go_simp
 go_at_call 149;refine (HT.out _ hbV).mono ?_;rintro e wT ⟨rfl,hxT⟩;have hbT:Below W1.heap.size W1.drew wT:=hbV.trans (hxT.mono hbV.size);go_wp2_with fail
 refine hK.out _ _ (by first|assumption|exact mk _ ‹_›) fun _=>?_
 clear hK K
 try simp only [puH,List.set]
 refine tkH 11 ?_
 try simp only [puH,List.set]
 refine tkH 12 ?_
 try simp only [puH,List.set]
 refine tkH 13 ?_
 try simp only [puH,List.set]
 refine tkH 14 ?_
 try simp only [puH,List.set]
 refine tkH 15 ?_
 try simp only [puH,List.set]
 refine tkH 16 ?_
 try simp only [puH,List.set]
 refine tkH 17 ?_
 try simp only [puH,List.set]
 refine rdH 18 fun K hK=>?_
 go_simp
 go_at_call 126;refine (HX.out _ hbT).mono ?_;rintro e wX ⟨rfl,hxX⟩;have hbX:Below W1.heap.size W1.drew wX:=hbT.trans (hxX.mono hbT.size);go_wp2_with fail
 refine hK.out _ _ (by first|assumption|exact mk _ ‹_›) fun _=>?_
 clear hK K
 try simp only [puH,List.set]
 refine tkH 19 ?_
 try simp only [puH,List.set]
 refine tkH 20 ?_
 try simp only [puH,List.set]
 refine tkH 21 ?_
 try simp only [puH,List.set]
 refine tkH 22 ?_
 try simp only [puH,List.set]
 refine tkH 23 ?_
 try simp only [puH,List.set]
 refine tkH 24 ?_
 try simp only [puH,List.set]
 refine tkH 25 ?_
 try simp only [puH,List.set]
 refine tkH 26 ?_
 try simp only [puH,List.set]
 refine tkH 27 ?_
 try simp only [puH,List.set]
 refine tkH 28 ?_
 try simp only [puH,List.set]
 refine rdH 29 fun K hK=>?_
 go_simp
 go_at_call 173;refine (HN.out _ hbX).mono ?_;rintro e wN ⟨rfl,hxN⟩;have hbN:Below W1.heap.size W1.drew wN:=hbX.trans (hxN.mono hbX.size);go_wp2_with fail
 refine hK.out _ _ (by first|assumption|exact mk _ ‹_›) fun _=>?_
 clear hK K
 try simp only [puH,List.set]
 refine tkH 30 ?_
 try simp only [puH,List.set]
 refine tkH 31 ?_
 try simp only [puH,List.set]
 refine tkH 32 ?_
 try simp only [puH,List.set]
 refine tkH 33 ?_
 try simp only [puH,List.set]
 refine rdH 34 fun K hK=>?_
 go_simp
 go_at_call 174;refine (HD.out _ hbN).mono ?_;rintro e wD ⟨rfl,hxD⟩;have hbD:Below W1.heap.size W1.drew wD:=hbN.trans (hxD.mono hbN.size);go_wp2_with fail
 refine hK.out _ _ (by first|assumption|exact mk _ ‹_›) fun _=>?_
 clear hK K
 try simp only [puH,List.set]
 refine tkH 35 ?_
 try simp only [puH,List.set]
 refine tkH 36 ?_
 try simp only [puH,List.set]
 refine rdH 37 fun K hK=>?_
 go_simp
 refine hK.out _ _ (by first|assumption|exact mk _ ‹_›) fun _=>?_
 clear hK K
 try simp only [puH,List.set]
 refine rdH 38 fun K hK=>?_
 go_simp
 refine hK.out _ _ (by first|assumption|exact mk _ ‹_›) fun _=>?_
 clear hK K
 try simp only [puH,List.set]
 refine tkH 39 ?_
 try simp only [puH,List.set]
 refine tkH 40 ?_
 try simp only [puH,List.set]
 refine wpAnyH_done (by kernel_rfl) ?_ _
 refine NoPanic.normal ?_
 clear hun
 go_wp2
 go_ret
 exact ⟨rfl,HB1.out.trans (((Below.refl _ W1).drew.trans hbD).mono HB1.out.size)⟩
end Go.Proofs.YtkgnigloboajcaaGreatDoor
