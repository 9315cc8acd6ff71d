/- isShaped, way by way (gen_fshp.py).; isShaped.; checkTerm. -/
import Derived.Test.YtkgnigloboajcaaGreatDoorK29
import Derived.Test.YtkgnigloboajcaaGreatDoorK30
import Derived.Test.YtkgnigloboajcaaGreatDoorK31
import Derived.Test.YtkgnigloboajcaaGreatDoorK32
import Derived.Shelf.RegionOpenPlain
set_option maxRecDepth 100000
set_option maxHeartbeats 16000000
namespace Go.Proofs.YtkgnigloboajcaaGreatDoor
open Go.RowKit Go.Maps Go.ChangeMaps
theorem shaped_11 (m:Nat) (t:List UInt8) (ns:List (List UInt8)) (ks:Fm) (d:Dt) (nr kr dr:Option Addr) (nc kc dc:Nat) (w:World) (hF:FOk ⟨(m:Int),t,ns,ks,d⟩) (hR:RFo w ⟨(m:Int),t,ns,ks,d⟩ nr kr dr) (hE:Env w) (hO:ks.oks) (hm0:1≤m) (hm1:m<16) (h1:takesB m ((ks.len:Int)-(valsN ⟨(m:Int),t,ns,ks,d⟩:Int))=true) (h2:(t == [])=false) (h3:hasTextB m=true) (h4:ns.length≠0) (h5:hasNamesB m=true) (h6:datFitB ⟨(m:Int),t,ns,ks,d⟩=true) :
  Calls Tryz.prog 153 #[frmV ⟨(m:Int),t,ns,ks,d⟩ (.slice nr ns.length nc) (.slice kr ks.len kc) (.slice dr d.s.len dc)] w fun e w' => e = .returned (.bool (callFitB ⟨(m:Int),t,ns,ks,d⟩))∧Below w.heap.size w w' := by
 obtain ⟨W1,hW1⟩:∃W1,w.alloc (Z9 ⟨(m:Int),t,ns,ks,d⟩ (.slice nr ns.length nc) (.slice kr ks.len kc) (.slice dr d.s.len dc))=W1:=⟨_,rfl⟩
 have a1:=(Below.refl _ w).alloc (Nat.le_refl w.heap.size) (Z9 ⟨(m:Int),t,ns,ks,d⟩ (.slice nr ns.length nc) (.slice kr ks.len kc) (.slice dr d.s.len dc))
 have q0:=World.alloc_heap_new w (Z9 ⟨(m:Int),t,ns,ks,d⟩ (.slice nr ns.length nc) (.slice kr ks.len kc) (.slice dr d.s.len dc))
 rw [hW1] at a1 q0
 have HB1:Hid (Below w.heap.size w W1):=a1
 have HR1:Hid (RFo W1 ⟨(m:Int),t,ns,ks,d⟩ nr kr dr):=hR.below a1
 have HE1:Hid (Env W1):=hE.below a1
 have HF:Hid (FOk ⟨(m:Int),t,ns,ks,d⟩):=hF
 obtain ⟨⟨z0,z1,z2,z3,z4,z5,z6,z7,z8⟩,_⟩:=cells9 q0
 obtain ⟨s0,s1,s2,s3⟩:=shp_at HE1.out.sl hm0 hm1
 have hwr:IntKind.i64.wrap ((ks.len:Int)-(valsN ⟨(m:Int),t,ns,ks,d⟩:Int))=(ks.len:Int)-(valsN ⟨(m:Int),t,ns,ks,d⟩:Int):=wrapV hF
 have i1:¬ (m:Int)<1:=by omega
 have i3:(m:Int)<16:=by omega
 have i2:¬ (15:Int)<(m:Int):=by omega
 have hmx:Tryz.prog.follows .mixedOrders=true:=by kernel_rfl
 have hb0:Below W1.heap.size W1.drew W1.drew:=Below.refl _ _
 have mk:∀wx,Below W1.heap.size W1.drew wx→(wx.cell? ⟨w.heap.size,0,none⟩=some (.int .u8 m)∧wx.cell? ⟨w.heap.size,1,none⟩=some (S t)∧wx.cell? ⟨w.heap.size,2,none⟩=some (.slice nr ns.length nc)∧wx.cell? ⟨w.heap.size,3,none⟩=some (.slice kr ks.len kc)∧wx.cell? ⟨w.heap.size,4,none⟩=some (.int .u8 d.k)∧wx.cell? ⟨w.heap.size,5,none⟩=some (.int .i64 d.n)∧wx.cell? ⟨w.heap.size,6,none⟩=some (S d.t)∧wx.cell? ⟨w.heap.size,7,none⟩=some (.slice dr d.s.len dc)∧wx.cell? ⟨w.heap.size,8,none⟩=some (.bool d.d))∧(wx.cell? ⟨1,m*4,none⟩=some (S (shpOf m).1)∧wx.cell? ⟨1,m*4+1,none⟩=some (.int .i64 (shpOf m).2.1)∧wx.cell? ⟨1,m*4+1+1,none⟩=some (.int .i64 (shpOf m).2.2.1)∧wx.cell? ⟨1,m*4+1+1+1,none⟩=some (.int .i64 (shpOf m).2.2.2)):=fun wx hb=>⟨keepZ (W:=W1.drew) hb ⟨z0,z1,z2,z3,z4,z5,z6,z7,z8⟩,keepS (W:=W1.drew) hb ⟨s0,s1,s2,s3⟩⟩
 clear a1 q0 hR hE hF
 have Hne:Hid ((m:Int)=10→ks.len≠0):=fun h10=>takes_ten (m:=m) (by omega) (by rw [show valsN ⟨(m:Int),t,ns,ks,d⟩=0 by unfold valsN;rw [if_neg (by show ¬ (m:Int)=8;omega)]];simp) h1
 have HV:Hid (∀wx,Below W1.heap.size W1.drew wx→Calls Tryz.prog 124 #[frmV ⟨(m:Int),t,ns,ks,d⟩ (.slice nr ns.length nc) (.slice kr ks.len kc) (.slice dr d.s.len dc)] wx fun e w' => e = .returned (.int .i64 (valsN ⟨(m:Int),t,ns,ks,d⟩))∧Below wx.heap.size wx w'):=fun wx hb=>valueCount_any ⟨(m:Int),t,ns,ks,d⟩ nr kr dr nc kc dc wx HF.out.nl
 have HT:Hid (∀wx,Below W1.heap.size W1.drew wx→Calls Tryz.prog 149 #[shpV m, .int .i64 ((ks.len:Int)-(valsN ⟨(m:Int),t,ns,ks,d⟩:Int))] wx fun e w' => e = .returned (.bool true)∧Below wx.heap.size wx w'):=fun wx hb=>by rw [←h1];exact takes_any m _ wx
 have HX:Hid (∀wx,Below W1.heap.size W1.drew wx→Calls Tryz.prog 126 #[.int .u8 m] wx fun e w' => e = .returned (.bool true)∧Below wx.heap.size wx w'):=fun wx hb=>by rw [←h3];exact hasText_any m wx
 have HN:Hid (∀wx,Below W1.heap.size W1.drew wx→Calls Tryz.prog 173 #[.int .u8 m] wx fun e w' => e = .returned (.bool true)∧Below wx.heap.size wx w'):=fun wx hb=>by rw [←h5];exact hasNames_any m wx
 have HD:Hid (∀wx,Below W1.heap.size W1.drew wx→Calls Tryz.prog 174 #[frmV ⟨(m:Int),t,ns,ks,d⟩ (.slice nr ns.length nc) (.slice kr ks.len kc) (.slice dr d.s.len dc)] wx fun e w' => e = .returned (.bool true)∧Below wx.heap.size wx w'):=fun wx hb=>by rw [←h6];exact datFit_of ⟨(m:Int),t,ns,ks,d⟩ nr kr dr nc kc dc wx HF.out (HR1.out.below (below_of hb)) (HE1.out.below (below_of hb))
 have HC:Hid (∀wx,Below W1.heap.size W1.drew wx→Calls Tryz.prog 175 #[frmV ⟨(m:Int),t,ns,ks,d⟩ (.slice nr ns.length nc) (.slice kr ks.len kc) (.slice dr d.s.len dc)] wx fun e w' => e = .returned (.bool (callFitB ⟨(m:Int),t,ns,ks,d⟩))∧Below wx.heap.size wx w'):=fun wx hb=>callFit_of ⟨(m:Int),t,ns,ks,d⟩ nr kr dr nc kc dc wx HF.out (HR1.out.below (below_of hb)) (HE1.out.below (below_of hb)) hO Hne.out
 clear h1 h3 h5 h6
 generalize ns.length=n4 at *
 have h4i:((n4:Int) == 0)=false:=by simp;omega
 go_enter Tryz.func153,Tryz.ntmps153
 go_upto_region 1 with fail
 clear hW1
 go_wp2_with fail
 have hun:undef = .tuple #[]:=rfl
 first
 | go_region_held3 (fun wx=>(wx.cell? ⟨w.heap.size,0,none⟩=some (.int .u8 m)∧wx.cell? ⟨w.heap.size,1,none⟩=some (S t)∧wx.cell? ⟨w.heap.size,2,none⟩=some (.slice nr n4 nc)∧wx.cell? ⟨w.heap.size,3,none⟩=some (.slice kr ks.len kc)∧wx.cell? ⟨w.heap.size,4,none⟩=some (.int .u8 d.k)∧wx.cell? ⟨w.heap.size,5,none⟩=some (.int .i64 d.n)∧wx.cell? ⟨w.heap.size,6,none⟩=some (S d.t)∧wx.cell? ⟨w.heap.size,7,none⟩=some (.slice dr d.s.len dc)∧wx.cell? ⟨w.heap.size,8,none⟩=some (.bool d.d))∧(wx.cell? ⟨1,m*4,none⟩=some (S (shpOf m).1)∧wx.cell? ⟨1,m*4+1,none⟩=some (.int .i64 (shpOf m).2.1)∧wx.cell? ⟨1,m*4+1+1,none⟩=some (.int .i64 (shpOf m).2.2.1)∧wx.cell? ⟨1,m*4+1+1+1,none⟩=some (.int .i64 (shpOf m).2.2.2))) (first|(go_keep;done)|exact mk _ hbC|exact mk _ hbD|exact mk _ hbN|exact mk _ hbX|exact mk _ hbT|exact mk _ hbV) (first|(go_at_call 124;refine (HV.out _ hb0).mono ?_;rintro e wV ⟨rfl,hxV⟩;have hbV:Below W1.heap.size W1.drew wV:=hb0.trans (hxV.mono hb0.size))|(go_at_call 149;refine (HT.out _ hbV).mono ?_;rintro e wT ⟨rfl,hxT⟩;have hbT:Below W1.heap.size W1.drew wT:=hbV.trans (hxT.mono hbV.size))|(go_at_call 126;refine (HX.out _ hbT).mono ?_;rintro e wX ⟨rfl,hxX⟩;have hbX:Below W1.heap.size W1.drew wX:=hbT.trans (hxX.mono hbT.size))|(go_at_call 173;refine (HN.out _ hbX).mono ?_;rintro e wN ⟨rfl,hxN⟩;have hbN:Below W1.heap.size W1.drew wN:=hbX.trans (hxN.mono hbX.size))|(go_at_call 174;refine (HD.out _ hbN).mono ?_;rintro e wD ⟨rfl,hxD⟩;have hbD:Below W1.heap.size W1.drew wD:=hbN.trans (hxD.mono hbN.size))|(go_at_call 175;refine (HC.out _ hbD).mono ?_;rintro e wC ⟨rfl,hxC⟩;have hbC:Below W1.heap.size W1.drew wC:=hbD.trans (hxC.mono hbD.size)))
 | fail
 clear hun
 go_wp2
 go_ret
 exact ⟨rfl,HB1.out.trans (((Below.refl _ W1).drew.trans hbC).mono HB1.out.size)⟩
theorem shaped_of (f:Frm) (nr kr dr:Option Addr) (nc kc dc:Nat) (w:World) (hF:FOk f) (hR:RFo w f nr kr dr) (hE:Env w) (hO:f.kids.oks) :
  Calls Tryz.prog 153 #[frmV f (.slice nr f.names.length nc) (.slice kr f.kids.len kc) (.slice dr f.dat.s.len dc)] w fun e w' => e = .returned (.bool (shapedB f))∧Below w.heap.size w w' := by
 by_cases hk:f.kind<1∨15<f.kind
 ·have HN:Hid (shapedB f=false):=by show _=_;unfold shapedB;rw [if_pos hk]
  have HB1:Hid (Below w.heap.size w (w.alloc (Z9 f (.slice nr f.names.length nc) (.slice kr f.kids.len kc) (.slice dr f.dat.s.len dc)))):=(Below.refl _ w).alloc (Nat.le_refl _) _
  rw [HN.out]
  clear hF hR hE hO
  by_cases h1:f.kind<1
  ·clear hk
   go_enter Tryz.func153,Tryz.ntmps153
   go_wp2
   go_ret
   exact ⟨rfl,HB1.out⟩
  ·have h2:15<f.kind:=hk.resolve_left h1
   clear hk
   go_enter Tryz.func153,Tryz.ntmps153
   go_wp2
   go_ret
   exact ⟨rfl,HB1.out⟩
 ·obtain ⟨k,t,ns,ks,d⟩:=f
  have hk2:¬ (k<1∨15<k):=hk
  obtain ⟨m,rfl⟩:∃m:Nat,k=(m:Int):=⟨k.toNat,by omega⟩
  have hm0:1≤m:=by omega
  have hm1:m<16:=by omega
  have HN:shapedB ⟨(m:Int),t,ns,ks,d⟩=((((takesB m ((ks.len:Int)-(valsN ⟨(m:Int),t,ns,ks,d⟩:Int)) && (t == [] || hasTextB m)) && (ns.length == 0 || hasNamesB m)) && datFitB ⟨(m:Int),t,ns,ks,d⟩) && callFitB ⟨(m:Int),t,ns,ks,d⟩):=by
   unfold shapedB;rw [if_neg hk];rfl
  rw [HN]
  have hO2:ks.oks:=hO
  cases h1:takesB m ((ks.len:Int)-(valsN ⟨(m:Int),t,ns,ks,d⟩:Int)) with
  | false=>exact shaped_0 m t ns ks d nr kr dr nc kc dc w hF hR hE hO2 hm0 hm1 h1
  | true =>
   cases h2:(t == []) with
   | true =>
    obtain rfl:t=[]:=by simpa using h2
    by_cases h4:ns.length=0
    ·obtain rfl:ns=[]:=List.length_eq_zero_iff.1 h4
     cases h6:datFitB ⟨(m:Int),[],[],ks,d⟩ with
     | false=>exact shaped_3 m ks d nr kr dr nc kc dc w hF hR hE hO2 hm0 hm1 h1 h6
     | true=>exact shaped_4 m ks d nr kr dr nc kc dc w hF hR hE hO2 hm0 hm1 h1 h6
    ·rw [show (ns.length == 0)=false by simpa using h4]
     cases h5:hasNamesB m with
     | false=>exact shaped_2 m ns ks d nr kr dr nc kc dc w hF hR hE hO2 hm0 hm1 h1 h4 h5
     | true =>
      cases h6:datFitB ⟨(m:Int),[],ns,ks,d⟩ with
      | false=>exact shaped_5 m ns ks d nr kr dr nc kc dc w hF hR hE hO2 hm0 hm1 h1 h4 h5 h6
      | true=>exact shaped_6 m ns ks d nr kr dr nc kc dc w hF hR hE hO2 hm0 hm1 h1 h4 h5 h6
   | false =>
    cases h3:hasTextB m with
    | false=>exact shaped_1 m t ns ks d nr kr dr nc kc dc w hF hR hE hO2 hm0 hm1 h1 h2 h3
    | true =>
     by_cases h4:ns.length=0
     ·obtain rfl:ns=[]:=List.length_eq_zero_iff.1 h4
      cases h6:datFitB ⟨(m:Int),t,[],ks,d⟩ with
      | false=>exact shaped_8 m t ks d nr kr dr nc kc dc w hF hR hE hO2 hm0 hm1 h1 h2 h3 h6
      | true=>exact shaped_9 m t ks d nr kr dr nc kc dc w hF hR hE hO2 hm0 hm1 h1 h2 h3 h6
     ·rw [show (ns.length == 0)=false by simpa using h4]
      cases h5:hasNamesB m with
      | false=>exact shaped_7 m t ns ks d nr kr dr nc kc dc w hF hR hE hO2 hm0 hm1 h1 h2 h3 h4 h5
      | true =>
       cases h6:datFitB ⟨(m:Int),t,ns,ks,d⟩ with
       | false=>exact shaped_10 m t ns ks d nr kr dr nc kc dc w hF hR hE hO2 hm0 hm1 h1 h2 h3 h4 h5 h6
       | true=>exact shaped_11 m t ns ks d nr kr dr nc kc dc w hF hR hE hO2 hm0 hm1 h1 h2 h3 h4 h5 h6
theorem term_of (f:Frm) (inn:Bool) (nr kr dr:Option Addr) (nc kc dc:Nat) (w:World) (hF:FOk f) (hR:RFo w f nr kr dr) (hE:Env w) (hO:f.kids.oks) :
  Calls Tryz.prog 120 #[frmV f (.slice nr f.names.length nc) (.slice kr f.kids.len kc) (.slice dr f.dat.s.len dc), .bool inn] w fun e w' => e = .returned (.int .i64 (termE f inn))∧Below w.heap.size w w' := by
 obtain ⟨W1,hW1⟩:∃W1,w.alloc (Z9 f (.slice nr f.names.length nc) (.slice kr f.kids.len kc) (.slice dr f.dat.s.len dc))=W1:=⟨_,rfl⟩
 have a1:=(Below.refl _ w).alloc (Nat.le_refl w.heap.size) (Z9 f (.slice nr f.names.length nc) (.slice kr f.kids.len kc) (.slice dr f.dat.s.len dc))
 have q0:=World.alloc_heap_new w (Z9 f (.slice nr f.names.length nc) (.slice kr f.kids.len kc) (.slice dr f.dat.s.len dc))
 rw [hW1] at a1 q0
 have HB1:Hid (Below w.heap.size w W1):=a1
 have HR1:Hid (RFo W1 f nr kr dr):=hR.below a1
 have HE1:Hid (Env W1):=hE.below a1
 have HF:Hid (FOk f):=hF
 have HQ1:Hid _:=q0
 have hz:=cells9 q0
 obtain ⟨⟨z0,z1,z2,z3,z4,z5,z6,z7,z8⟩,_⟩:=hz
 clear a1 q0 hR hE
 have HO:Hid f.kids.oks:=hO
 have HN:Hid (termE f inn=if !shapedB f || (inn && f.kind == 5) then 70 else if !namedB f then 71 else if twiceB [] f.names then 72 else 0):=rfl
 have HS:Hid (Calls Tryz.prog 153 #[frmV f (.slice nr f.names.length nc) (.slice kr f.kids.len kc) (.slice dr f.dat.s.len dc)] W1 fun e w' => e = .returned (.bool (shapedB f))∧Below W1.heap.size W1 w'):=shaped_of f nr kr dr nc kc dc W1 HF.out HR1.out HE1.out hO
 clear hO
 cases h1:shapedB f with
 | false =>
  have H:Hid (termE f inn=70):=by show _=_;rw [HN.out,h1];rfl
  rw [h1] at HS
  clear h1 HN
  go_enter Tryz.func120,Tryz.ntmps120
  go_upto_region 2 with fail
  clear hW1
  go_wp2_with fail
  refine HS.out.mono ?_
  rintro e w2 ⟨rfl,hb2⟩
  have HQ2:Hid _:=(hb2.block _ (Array.getElem?_eq_some_iff.1 HQ1.out).1).trans HQ1.out
  have HB2:Hid (Below w.heap.size w w2):=HB1.out.trans (hb2.mono HB1.out.size)
  have HR2:Hid (RFo w2 f nr kr dr):=HR1.out.below hb2
  have HE2:Hid (Env w2):=HE1.out.below hb2
  clear hb2 z0 z1 z2 z3 z4 z5 z6 z7 z8
  obtain ⟨⟨z0,z1,z2,z3,z4,z5,z6,z7,z8⟩,_⟩:=cells9 HQ2.out
  go_wp2
  go_ret
  exact ⟨by rw [H.out];rfl,HB2.out⟩
 | true =>
 rw [h1] at HS
 by_cases h5:inn=true∧f.kind=5
 ·have H:Hid (termE f inn=70):=by show _=_;rw [HN.out,h1,h5.1,h5.2];rfl
  obtain ⟨hi,hk⟩:=h5
  subst hi
  have b5:(f.kind == 5)=true:=by simp [hk]
  clear h1 HN hk
  go_enter Tryz.func120,Tryz.ntmps120
  go_upto_region 2 with fail
  clear hW1
  go_wp2_with fail
  refine HS.out.mono ?_
  rintro e w2 ⟨rfl,hb2⟩
  have HQ2:Hid _:=(hb2.block _ (Array.getElem?_eq_some_iff.1 HQ1.out).1).trans HQ1.out
  have HB2:Hid (Below w.heap.size w w2):=HB1.out.trans (hb2.mono HB1.out.size)
  have HR2:Hid (RFo w2 f nr kr dr):=HR1.out.below hb2
  have HE2:Hid (Env w2):=HE1.out.below hb2
  clear hb2 z0 z1 z2 z3 z4 z5 z6 z7 z8
  obtain ⟨⟨z0,z1,z2,z3,z4,z5,z6,z7,z8⟩,_⟩:=cells9 HQ2.out
  go_wp2
  go_ret
  exact ⟨by rw [H.out];rfl,HB2.out⟩
 have HI:Hid ((inn && f.kind == 5)=false):=by
  show _=_
  cases inn with
  | false=>rfl
  | true=>simpa using fun h=>h5 ⟨rfl,h⟩
 have HS1:Hid (shapedB f=true):=h1
 clear h1
 cases inn with
 | false =>
  clear h5
  go_enter Tryz.func120,Tryz.ntmps120
  go_upto_region 2 with fail
  clear hW1
  go_wp2_with fail
  refine HS.out.mono ?_
  rintro e w2 ⟨rfl,hb2⟩
  have HQ2:Hid _:=(hb2.block _ (Array.getElem?_eq_some_iff.1 HQ1.out).1).trans HQ1.out
  have HB2:Hid (Below w.heap.size w w2):=HB1.out.trans (hb2.mono HB1.out.size)
  have HR2:Hid (RFo w2 f nr kr dr):=HR1.out.below hb2
  have HE2:Hid (Env w2):=HE1.out.below hb2
  clear hb2 z0 z1 z2 z3 z4 z5 z6 z7 z8
  obtain ⟨⟨z0,z1,z2,z3,z4,z5,z6,z7,z8⟩,_⟩:=cells9 HQ2.out
  go_wp2_with fail
  refine (named_of f nr kr dr nc kc dc w2 HF.out HR2.out HE2.out).mono ?_
  rintro e w3 ⟨rfl,hb3⟩
  have HQ3:Hid _:=(hb3.block _ (Array.getElem?_eq_some_iff.1 HQ2.out).1).trans HQ2.out
  have HB3:Hid (Below w.heap.size w w3):=HB2.out.trans (hb3.mono HB2.out.size)
  have HR3:Hid (RFo w3 f nr kr dr):=HR2.out.below hb3
  clear hb3 z0 z1 z2 z3 z4 z5 z6 z7 z8
  obtain ⟨⟨z0,z1,z2,z3,z4,z5,z6,z7,z8⟩,_⟩:=cells9 HQ3.out
  cases h2:namedB f with
  | false =>
   have H:Hid (termE f false=71):=by show _=_;rw [HN.out,HS1.out,HI.out,h2];rfl
   clear h2
   go_wp2
   go_ret
   exact ⟨by rw [H.out];rfl,HB3.out⟩
  | true =>
   have H2:Hid (namedB f=true):=h2
   clear h2
   go_wp2_with fail
   refine (twice_any f.names nr nc w3 HR3.out.n HF.out.nl HF.out.ns).mono ?_
   rintro e w4 ⟨rfl,hb4⟩
   have HB4:Hid (Below w.heap.size w w4):=HB3.out.trans (hb4.mono HB3.out.size)
   clear hb4
   cases h3:twiceB [] f.names with
   | true =>
    have H:Hid (termE f false=72):=by show _=_;rw [HN.out,HS1.out,HI.out,H2.out,h3];rfl
    clear h3
    go_wp2
    go_ret
    exact ⟨by rw [H.out];rfl,HB4.out⟩
   | false =>
    have H:Hid (termE f false=0):=by show _=_;rw [HN.out,HS1.out,HI.out,H2.out,h3];rfl
    clear h3
    go_wp2
    go_ret
    exact ⟨by rw [H.out];rfl,HB4.out⟩
 | true =>
  have b5:(f.kind == 5)=false:=by simpa using fun h=>h5 ⟨rfl,h⟩
  clear h5
  go_enter Tryz.func120,Tryz.ntmps120
  go_upto_region 2 with fail
  clear hW1
  go_wp2_with fail
  refine HS.out.mono ?_
  rintro e w2 ⟨rfl,hb2⟩
  have HQ2:Hid _:=(hb2.block _ (Array.getElem?_eq_some_iff.1 HQ1.out).1).trans HQ1.out
  have HB2:Hid (Below w.heap.size w w2):=HB1.out.trans (hb2.mono HB1.out.size)
  have HR2:Hid (RFo w2 f nr kr dr):=HR1.out.below hb2
  have HE2:Hid (Env w2):=HE1.out.below hb2
  clear hb2 z0 z1 z2 z3 z4 z5 z6 z7 z8
  obtain ⟨⟨z0,z1,z2,z3,z4,z5,z6,z7,z8⟩,_⟩:=cells9 HQ2.out
  go_wp2_with fail
  refine (named_of f nr kr dr nc kc dc w2 HF.out HR2.out HE2.out).mono ?_
  rintro e w3 ⟨rfl,hb3⟩
  have HQ3:Hid _:=(hb3.block _ (Array.getElem?_eq_some_iff.1 HQ2.out).1).trans HQ2.out
  have HB3:Hid (Below w.heap.size w w3):=HB2.out.trans (hb3.mono HB2.out.size)
  have HR3:Hid (RFo w3 f nr kr dr):=HR2.out.below hb3
  clear hb3 z0 z1 z2 z3 z4 z5 z6 z7 z8
  obtain ⟨⟨z0,z1,z2,z3,z4,z5,z6,z7,z8⟩,_⟩:=cells9 HQ3.out
  cases h2:namedB f with
  | false =>
   have H:Hid (termE f true=71):=by show _=_;rw [HN.out,HS1.out,HI.out,h2];rfl
   clear h2
   go_wp2
   go_ret
   exact ⟨by rw [H.out];rfl,HB3.out⟩
  | true =>
   have H2:Hid (namedB f=true):=h2
   clear h2
   go_wp2_with fail
   refine (twice_any f.names nr nc w3 HR3.out.n HF.out.nl HF.out.ns).mono ?_
   rintro e w4 ⟨rfl,hb4⟩
   have HB4:Hid (Below w.heap.size w w4):=HB3.out.trans (hb4.mono HB3.out.size)
   clear hb4
   cases h3:twiceB [] f.names with
   | true =>
    have H:Hid (termE f true=72):=by show _=_;rw [HN.out,HS1.out,HI.out,H2.out,h3];rfl
    clear h3
    go_wp2
    go_ret
    exact ⟨by rw [H.out];rfl,HB4.out⟩
   | false =>
    have H:Hid (termE f true=0):=by show _=_;rw [HN.out,HS1.out,HI.out,H2.out,h3];rfl
    clear h3
    go_wp2
    go_ret
    exact ⟨by rw [H.out];rfl,HB4.out⟩
end Go.Proofs.YtkgnigloboajcaaGreatDoor
