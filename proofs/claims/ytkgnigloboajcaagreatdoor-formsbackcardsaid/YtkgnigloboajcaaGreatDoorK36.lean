/- append of data to a list of data, whatever is appended.; How a list is written.; Back and Check. -/
import Derived.Test.YtkgnigloboajcaaGreatDoorK35
import Derived.Deep.DeepCutAuto
import Derived.Deep.RegionHeld3
import Derived.Shelf.RegionOpenPlain
set_option maxRecDepth 100000
set_option maxHeartbeats 16000000
namespace Go.Proofs.YtkgnigloboajcaaGreatDoor
open Go.RowKit
theorem _root_.Go.World.ownsRow.cells_some {W:World} {b e c n m cap:Nat} {ad:Addr} {xs:List Value} (h:W.ownsRow b e c (.slice (some ad) m cap) n xs) (j:Nat) (u:Value) (hj:xs[j]?=some u):W.cell? (ad.add j)=some u:=by
 rcases h.2 with ⟨h0,_⟩|⟨g,cap', cur,hv,_⟩
 ·cases h0
 ·cases hv;exact h.cells (g:=g) rfl j u hj
theorem own_neA {W:World} {b e c n cap:Nat} {xa:Option Addr} {xs:List Value} (h:W.ownsRow b e c (.slice xa n cap) n xs) (h0:n≠0):xa≠none:=by
 rintro rfl
 rcases h.2 with ⟨_,h2⟩|⟨g,cap', cur,hv,_⟩
 ·exact h0 h2
 ·cases hv
theorem wpList_append_tree (W:World) {ops:Array Oper} {rest:List Oper} {o:Oper} {a:Act} {Q:Exit→Act→World→Prop} (hgd:o.guard=none) (s x:Operand)
  (ho:o.op = .call { callee := .builtin .append,args := #[s,x],argTypes := #[30,30] }) (base nb:Nat) (f g:Fo) (ra:Option Addr) (cv:Nat) (hs:a.eval s = .slice ra f.len cv) (cs:List Value) (bs:List Nat)
  (hT:W.ownsRow base 32 5 (.slice ra f.len cv) f.len cs∧Row W base f cs bs∧(own1 (.slice ra f.len cv)++bs).Nodup) (hold:∀y∈own1 (.slice ra f.len cv)++bs,y<nb)
  (xa:Option Addr) (xc:Nat) (hx:a.eval x = .slice xa g.len xc) (news:List Value) (nbs:List Nat) (hn:Row W nb g news nbs) (hnd:nbs.Nodup) (hcell:∀ad,xa=some ad→∀j u,news[j]?=some u→W.cell? (ad.add j)=some u) (hxa:g.len≠0→xa≠none)
  (hbn:base≤nb) (hsz:f.len+g.len≤1000000) (hb:base≤W.heap.size)
  (h:∀ra' cap' w', Tree w' base (.slice ra' (f.len+g.len) cap') (f.app g)→(∀y,y<W.heap.size→(Value.slice ra f.len cv).ownBlock≠some y→w'.heap[y]?=W.heap[y]?)→W.heap.size≤w'.heap.size→w'.os=W.os→w'.tape=W.tape→w'.output=W.output →
   wpList Tryz.prog ops Q rest (a.put o.dst (.slice ra' (f.len+g.len) cap')) w'):wpList Tryz.prog ops Q (o::rest) a W:=by
 obtain ⟨i0,hi0,hz0,hz1,hz2⟩:=info_parts infoDat
 by_cases h0:g.len=0
 ·have hg:g = .nil:=Fo.len0 h0
  subst hg
  have hle:f.len≤cv:=by
   rcases hT.1.2 with ⟨hv,h1⟩|⟨_,_,_,hv,_,_,h1,_⟩
   ·rw [h1];exact Nat.zero_le _
   ·cases hv;exact h1
  refine wpList_plain hgd fun _ hK=>wp_append_nothing W s x _ ho 32 i0 Tryz.underlying30 hi0 ra xa f.len cv xc hle hs hx (hK _ _ ?_)
  exact h ra cv W (by rw [Fo.app_nil];exact ⟨cs,bs,hT⟩) (fun _ _ _=>rfl) (Nat.le_refl _) rfl rfl rfl
 ·cases xa with
  | none=>exact absurd rfl (hxa h0)
  | some ad =>
   refine wpList_append_lies _ hgd s x _ ho base 32 i0 (.agg #[.int .u8 0, .int .i64 0, .string ⟨#[]⟩, .slice none 0 0, .bool false]) 5 64 Tryz.underlying30 hi0 hz0 hz1 hz2 rfl (by decide) (.slice ra f.len cv) f.len cs hs hT.1 ad g.len xc news hx hn.len (hcell ad rfl) hn.one (by omega) (by unfold maxLen;omega) (by omega) hb _ rfl ?_
   intro gg cap6 w6 hown hgr hat hlt6
   have HTX:=tree_append hT.1 hT.2.1 hT.2.2 (hn.mono hbn) hnd (fun y hy hm=>by
    have h1:=(hn.lt y hy).1
    have:=hold y hm
    omega) rfl rfl hown hgr (hat.imp (fun h=>h.symm) (fun h=>by rw [h];rfl))
   exact h _ _ w6 ⟨_,_,HTX⟩ (fun y hy hv=>hgr.block y hy (fun e=>hv e.symm)) hgr.size hgr.os hgr.tape hgr.output
open Go.RowKit Go.Maps Go.ChangeMaps
theorem RdF.split {w:World} {b:Nat}:∀{f:Fm} {o n:Nat},RdF w f b o→n≤f.len→∃(p g:Fm),f=p.app g∧p.len=n∧RdF w g b (o+n*9)
 | f,o,0,h,_=>⟨.nil,f,rfl,rfl,by simpa using h⟩
 | .nil,_,n+1,_,hn=>by simp [Fm.len] at hn
 | .cons k t ns ks dk dn dt ds dd r,o,n+1,h,hn=>by
  simp only [Fm.len] at hn
  obtain ⟨p,g,hp,hl,hr⟩:=RdF.split h.2.2 (show n≤r.len by omega)
  exact ⟨.cons k t ns ks dk dn dt ds dd p,g,by rw [hp];rfl,by simp [Fm.len,hl],by rw [show o+(n+1)*9=o+9+n*9 by omega];exact hr⟩
theorem EachF.tail {P:Frm→Prop}:∀{p g:Fm},EachF P (p.app g)→EachF P g
 | .nil,_,h=>h
 | .cons _ _ _ _ _ _ _ _ _ _,_,h=>EachF.tail h.2
theorem ahead_len (f:Frm) (b:Fo):(aheadF f b).len≤1:=by
 unfold aheadF
 split
 ·exact Nat.le_refl _
 split
 ·exact Nat.le_refl _
 split
 ·exact Nat.le_refl _
 split
 ·exact Nat.le_refl _
 ·exact Nat.zero_le _
theorem written_list (m:Nat) (t:List UInt8) (ns:List (List UInt8)) (ks:Fm) (d:Dt) (nr kr dr:Option Addr) (nc kc dc:Nat) (w:World) (hF:FOk ⟨(m:Int),t,ns,ks,d⟩) (hR:RFo w ⟨(m:Int),t,ns,ks,d⟩ nr kr dr) (hkc:ks.len≤kc) (hE:Env w) (hm0:1≤m) (hm1:m<16) (hk2:m≠2) (hk1:m=1→itselfB d.k=false) (hv:valsN ⟨(m:Int),t,ns,ks,d⟩≤ks.len) (hall:EachF WrK ks) :
  Calls Tryz.prog 83 #[frmV ⟨(m:Int),t,ns,ks,d⟩ (.slice nr ns.length nc) (.slice kr ks.len kc) (.slice dr d.s.len dc)] w fun e w' => ∃v,e = .returned (datV (wrD ⟨(m:Int),t,ns,ks,d⟩) v)∧Tree w' w.heap.size v (wrD ⟨(m:Int),t,ns,ks,d⟩).s∧Below w.heap.size w w' := by
 obtain ⟨bnd,hbnd⟩:∃bnd,zipB ns (wrF ks)=bnd:=⟨_,rfl⟩
 have HM:Hid (wrD ⟨(m:Int),t,ns,ks,d⟩=listD (((wordF m).app (aheadF ⟨(m:Int),t,ns,ks,d⟩ bnd)).app ((wrF ks).drop (valsN ⟨(m:Int),t,ns,ks,d⟩)))):=by
  show _=_
  rw [←hbnd]
  unfold wrD wr1
  rw [if_neg (show ¬ ((m:Int)=2) by omega),if_neg (show ¬ ((m:Int)=1∧itselfB d.k=true) by rintro ⟨h1,h2⟩;rw [hk1 (by omega)] at h2;cases h2)]
 have HH:Hid (WH w ((w.alloc (Z9 ⟨(m:Int),t,ns,ks,d⟩ (.slice nr ns.length nc) (.slice kr ks.len kc) (.slice dr d.s.len dc))).alloc Z5) ⟨(m:Int),t,ns,ks,d⟩ (.slice nr ns.length nc) (.slice kr ks.len kc) (.slice dr d.s.len dc)):=WH.new _ _ _ _ _
 have b2:((m:Int) == 2)=false:=by simpa using fun h:(m:Int)=2=>hk2 (by omega)
 have HR:Hid (RFo w ⟨(m:Int),t,ns,ks,d⟩ nr kr dr):=hR
 have HE:Hid (Env w):=hE
 have Hkc:Hid (ks.len≤kc):=hkc
 have HF:Hid (FOk ⟨(m:Int),t,ns,ks,d⟩):=hF
 have HA:Hid (EachF WrK ks):=hall
 have HV:Hid (valsN ⟨(m:Int),t,ns,ks,d⟩≤ks.len):=hv
 have HB:Hid (∀wx,Below w.heap.size w wx→Calls Tryz.prog 123 #[frmV ⟨(m:Int),t,ns,ks,d⟩ (.slice nr ns.length nc) (.slice kr ks.len kc) (.slice dr d.s.len dc)] wx fun e w' => ∃v,e = .returned v∧Tree w' wx.heap.size v (aheadF ⟨(m:Int),t,ns,ks,d⟩ bnd)∧Below wx.heap.size wx w'):=fun wx hb=>by
  refine ahead_of ⟨(m:Int),t,ns,ks,d⟩ bnd nr kr dr nc kc dc wx hF (hR.below hb) fun h8 w' hb' => ?_
  rw [←hbnd]
  refine wbinds_of ⟨(m:Int),t,ns,ks,d⟩ nr kr dr nc kc dc w' hF (hR.below (hb.trans (hb'.mono hb.size))) (hE.below (hb.trans (hb'.mono hb.size))) ?_ hall
  have:valsN ⟨(m:Int),t,ns,ks,d⟩=ns.length:=by unfold valsN;rw [if_pos h8]
  rw [←this];exact hv
 clear hR hF hE hall hbnd hv hkc
 have Hk1:Hid (m=1→itselfB d.k=false):=hk1
 clear hk1
 go_enter Tryz.func83,Tryz.ntmps83
 go_upto_region 1 with fail
 generalize (w.alloc (Z9 ⟨(m:Int),t,ns,ks,d⟩ (.slice nr ns.length nc) (.slice kr ks.len kc) (.slice dr d.s.len dc))).alloc Z5=W1 at *
 obtain ⟨⟨z0,z1,z2,z3,z4,z5,z6,z7,z8⟩,_⟩:=cells9 HH.out.q0
 go_upto_region 3 with fail
 go_cut [14] (fun v wx=>v = .bool false∧Hid (WH w wx ⟨(m:Int),t,ns,ks,d⟩ (.slice nr ns.length nc) (.slice kr ks.len kc) (.slice dr d.s.len dc)))
 case first =>
  by_cases h1:m=1
  ·have b1:((m:Int) == 1)=true:=by simp [h1]
   have HI:Hid (itselfB d.k=false):=Hk1.out h1
   clear h1
   go_wp2_with fail
   refine (itself_any d (.slice dr d.s.len dc) W1 ⟨_,_,rfl⟩).mono ?_
   rintro e w2 ⟨rfl,hb2⟩
   rw [HI.out]
   have HH2:Hid (WH w w2 ⟨(m:Int),t,ns,ks,d⟩ (.slice nr ns.length nc) (.slice kr ks.len kc) (.slice dr d.s.len dc)):=HH.out.step (hb2.mono HH.out.lt)
   go_wp2_with fail
   go_meet
   exact ⟨rfl,HH2⟩
  ·have b1:((m:Int) == 1)=false:=by simpa using fun h:(m:Int)=1=>h1 (by omega)
   clear h1
   go_wp2_with fail
   go_meet
   exact ⟨rfl,HH⟩
 case rest =>
  obtain ⟨rfl,HH2⟩:=hcut
  clear z0 z1 z2 z3 z4 z5 z6 z7 z8 HH
  obtain ⟨W2,hW2⟩:∃W2,W2=wc:=⟨_,rfl⟩
  subst hW2
  obtain ⟨⟨z0,z1,z2,z3,z4,z5,z6,z7,z8⟩,_⟩:=cells9 HH2.out.q0
  obtain ⟨s0,s1,s2,s3⟩:=shp_at (HE.out.below HH2.out.b).sl hm0 hm1
  have hmi:(m:Int)<16:=by omega
  have hmi0:0≤(m:Int):=by omega
  have hsl:=(HE.out.below HH2.out.b).sl.lt
  have HWD:Hid (wordF m=if (shpOf m).1=[] then .nil else (symD (shpOf m).1).fo .nil):=rfl
  generalize (shpOf m).1=wd at *
  go_upto_region 7 with fail
  go_cut [32] (fun v wx=>∃bb:Bool,v = .bool bb∧wx=W2∧Hid (bb=(!(wd == []))))
  case first =>
   cases hw:(wd == []) with
   | true =>
    obtain rfl:wd=[]:=by simpa using hw
    go_wp2_with fail
    go_meet
    exact ⟨false,rfl,rfl,rfl⟩
   | false =>
    go_wp2_with fail
    go_meet
    exact ⟨true,rfl,rfl,by show _=_;simp [hw]⟩
  case rest =>
   obtain ⟨bb,rfl,rfl,Hbb⟩:=hcut
   have Hs2:Hid (Env wc):=HE.out.below HH2.out.b
   obtain ⟨W0,hW0⟩:∃W0,wordF (m:Int)=W0:=⟨_,rfl⟩
   have HW0l:Hid (W0.len≤1):=by
    show _
    rw [←hW0,HWD.out]
    split
    ·exact Nat.zero_le _
    ·exact Nat.le_refl _
   rw [hW0] at HWD HM
   clear hW0
   go_upto_if 32 with fail
   go_cut [3] (fun nv wx=>∃(ra:Option Addr) (c:Nat),nv = .slice ra W0.len c∧Hid (Tree wx (w.heap.size+2) (.slice ra W0.len c) W0)∧Hid (WH w wx ⟨(m:Int),t,ns,ks,d⟩ (.slice nr ns.length nc) (.slice kr ks.len kc) (.slice dr d.s.len dc)))
   case first =>
    cases bb with
    | false =>
     have hw:wd=[]:=by have:=Hbb.out;simpa using this
     have HWE:Hid (W0 = .nil):=by show _=_;rw [HWD.out,if_pos hw]
     clear hw
     go_wp2_with fail
     go_meet
     rw [HWE.out]
     exact ⟨none,0,rfl,Tree.nil _ _,HH2⟩
    | true =>
     have hw:wd≠[]:=by have:=Hbb.out;simpa using this
     have HWE:Hid (W0=(symD wd).fo .nil):=by show _=_;rw [HWD.out,if_neg hw]
     obtain ⟨i0,hi0,hz0,hz1,hz2⟩:=info_parts infoDat
     clear hw
     go_wp2_with fail
     refine (fsymbol_any wd wc).mono ?_
     rintro e w3 ⟨rfl,hb3⟩
     have HH3:Hid (WH w w3 ⟨(m:Int),t,ns,ks,d⟩ (.slice nr ns.length nc) (.slice kr ks.len kc) (.slice dr d.s.len dc)):=HH2.out.step (hb3.mono HH2.out.lt)
     have hl3:=HH3.out.lt
     clear hb3 s0 s1 s2 s3 z0 z1 z2 z3 z4 z5 z6 z7 z8 HH2
     simp only [symD]
     go_wp2_with (at_builtin;refine stop_of ?_)
     unfold Hid
     refine wpList_append_lies _ rfl _ _ 30 rfl (w.heap.size+2) 32 i0 (.agg #[.int .u8 0, .int .i64 0, .string ⟨#[]⟩, .slice none 0 0, .bool false]) 5 64 Tryz.underlying30 hi0 hz0 hz1 hz2 rfl (by decide) (.slice none 0 0) 0 [] rfl (World.ownsRow_nil _ _ _ _) ⟨_,0,none⟩ 1 1 [.int .u8 2, .int .i64 0,S wd, .slice none 0 0, .bool false] rfl rfl (cell_five_at _ _ (by simp) _ _ _ _ _ _) (five_one _ _ _ _ _ _ _) (by omega) (by unfold maxLen;omega) (by omega) (by simp;omega) _ rfl ?_
     intro g cap6 w6 hown hgr hat hlt6
     have nho:w3.ownsRow (w.heap.size+2) 32 5 (.slice none 0 0) (Fo.len .nil) []:=World.ownsRow_nil _ _ _ _
     have nhr:Row w3 (w.heap.size+2) .nil [] []:=⟨rfl,rfl⟩
     have HTX:=tree_append (World.ownsRow.alloc nho _) (nhr.alloc _) (by rw [own1_nil];exact List.nodup_nil) ((Row.single (k:=2) (n:=0) (t:=wd) (d:=false) nho nhr).alloc _) (by rw [own1_nil];exact List.nodup_nil) (fun y hy _=>by rw [own1_nil] at hy;cases hy) rfl rfl hown hgr (hat.imp (fun h=>h.symm) (fun h=>by rw [h];rfl))
     have HT6:Hid (Tree w6 (w.heap.size+2) (.slice (some ⟨g,0,none⟩) W0.len cap6) W0):=by
      rw [HWE.out];exact ⟨_,_,HTX⟩
     have HH6:Hid (WH w w6 ⟨(m:Int),t,ns,ks,d⟩ (.slice nr ns.length nc) (.slice kr ks.len kc) (.slice dr d.s.len dc)):=by
      have a6:=(Below.refl _ w3).alloc hl3 (.cells #[.int .u8 2, .int .i64 0,S wd, .slice none 0 0, .bool false] 32)
      exact HH3.out.step (a6.trans ((Below.refl _ _).grown hgr (by rw [World.size_alloc];omega) (fun k' hk=>(nho.lt k' hk).1)))
     have HL6:Hid (W0.len=0+1):=by show _=_;rw [HWE.out];rfl
     clear hown hgr hat hlt6 HTX nho nhr
     go_wp2_with fail
     go_meet
     exact ⟨some ⟨g,0,none⟩,cap6,by rw [HL6.out],HT6,HH6⟩
   case rest =>
    obtain ⟨ra3,c3,rfl,HT3,HH3⟩:=hcut
    clear s0 s1 s2 s3 z0 z1 z2 z3 z4 z5 z6 z7 z8 HH2 Hbb hsl
    obtain ⟨⟨z0,z1,z2,z3,z4,z5,z6,z7,z8⟩,_⟩:=cells9 HH3.out.q0
    go_wp2_with fail
    refine (HB.out _ HH3.out.b).mono ?_
    rintro e w5 ⟨v,rfl,hT5,hb5⟩
    have HAL:Hid ((aheadF ⟨(m:Int),t,ns,ks,d⟩ bnd).len≤1):=ahead_len _ _
    obtain ⟨A0,hA0⟩:∃A0,aheadF ⟨(m:Int),t,ns,ks,d⟩ bnd=A0:=⟨_,rfl⟩
    rw [hA0] at hT5 HM HAL
    clear hA0
    obtain ⟨ra5,c5,rfl⟩:=hT5.slice
    have HH5:Hid (WH w w5 ⟨(m:Int),t,ns,ks,d⟩ (.slice nr ns.length nc) (.slice kr ks.len kc) (.slice dr d.s.len dc)):=HH3.out.step (hb5.mono HH3.out.lt)
    have HT35:Hid (Tree w5 (w.heap.size+2) (.slice ra3 W0.len c3) W0):=HT3.out.kept (fun g _ hg=>hb5.block g hg)
    obtain ⟨cs3,bs3,ho3,hr3,hn3⟩:=HT3.out.ex
    have Hold:Hid (∀y∈own1 (.slice ra3 W0.len c3)++bs3,y<wc.heap.size):=by
     show ∀y∈own1 (.slice ra3 W0.len c3)++bs3,y<wc.heap.size
     intro y hy
     rcases List.mem_append.1 hy with h|h
     ·exact (ho3.lt y (mem_own1.1 h)).2
     ·exact (hr3.lt y h).2
    have Ho3:Hid (w5.ownsRow (w.heap.size+2) 32 5 (.slice ra3 W0.len c3) W0.len cs3):=own_same ho3 (fun g hg=>hb5.block g (ho3.lt g hg).2)
    have Hr3:Hid (Row w5 (w.heap.size+2) W0 cs3 bs3):=hr3.kept (fun g hg=>hb5.block g (hr3.lt g hg).2)
    have Hn3:Hid (own1 (.slice ra3 W0.len c3)++bs3).Nodup:=hn3
    have HT5:Hid (Tree w5 wc.heap.size (.slice ra5 A0.len c5) A0):=hT5
    have hl3:=HH3.out.lt
    have hl5:=HH5.out.lt
    clear ho3 hr3 hn3 hT5 hb5 z0 z1 z2 z3 z4 z5 z6 z7 z8 HB HH3 HT3 HT35
    obtain ⟨ncs,nbs,nho,nhr,nnd⟩:=HT5.out.ex
    go_wp2_with (at_builtin;refine stop_of ?_)
    unfold Hid
    refine wpList_append_tree _ rfl _ _ rfl (w.heap.size+2) wc.heap.size W0 A0 ra3 c3 rfl cs3 bs3 ⟨Ho3.out,Hr3.out,Hn3.out⟩ Hold.out ra5 c5 rfl ncs nbs nhr (List.nodup_append.1 nnd).2.1 (fun ad had j u hu=>by subst had;exact nho.cells_some j u hu) (own_neA nho) hl3 (by have:=HW0l.out;have:=HAL.out;omega) (by omega) ?_
    intro ra6 c6 w6 hT6 hk6 hs6 e1 e2 e3
    have HT6:Hid (Tree w6 (w.heap.size+2) (.slice ra6 (W0.len+A0.len) c6) (W0.app A0)):=hT6
    have HH6:Hid (WH w w6 ⟨(m:Int),t,ns,ks,d⟩ (.slice nr ns.length nc) (.slice kr ks.len kc) (.slice dr d.s.len dc)):=HH5.out.step ⟨e1,e2,e3,hs6,fun g hg=>hk6 g (by omega) (fun e=>by have:=(Ho3.out.lt g e).1;omega)⟩
    clear hT6 hk6 hs6 e1 e2 e3 nho nhr nnd HH5 Ho3 Hr3 Hn3 Hold HT5
    obtain ⟨vn,hvn⟩:∃vn,valsN ⟨(m:Int),t,ns,ks,d⟩=vn:=⟨_,rfl⟩
    have HVC:Hid (∀wx,Calls Tryz.prog 124 #[frmV ⟨(m:Int),t,ns,ks,d⟩ (.slice nr ns.length nc) (.slice kr ks.len kc) (.slice dr d.s.len dc)] wx fun e w' => e = .returned (.int .i64 (vn:Nat))∧Below wx.heap.size wx w'):=fun wx=>by
     rw [←hvn];exact valueCount_any ⟨(m:Int),t,ns,ks,d⟩ nr kr dr nc kc dc wx HF.out.nl
    rw [hvn] at HM HV
    clear hvn
    have hv1:(vn:Int)≤(ks.len:Int):=by have:=HV.out;omega
    have hv0:(0:Int)≤(vn:Int):=by omega
    go_upto_region 10 with fail
    obtain ⟨z0,z1⟩:=cells9 HH6.out.q0
    clear z1
    have mk:∀wx,Below w6.heap.size w6 wx→(wx.cell? ⟨w.heap.size,0,none⟩=some (.int .u8 m)∧wx.cell? ⟨w.heap.size,1,none⟩=some (S t)∧wx.cell? ⟨w.heap.size,2,none⟩=some (.slice nr ns.length nc)∧wx.cell? ⟨w.heap.size,3,none⟩=some (.slice kr ks.len kc)∧wx.cell? ⟨w.heap.size,4,none⟩=some (.int .u8 d.k)∧wx.cell? ⟨w.heap.size,5,none⟩=some (.int .i64 d.n)∧wx.cell? ⟨w.heap.size,6,none⟩=some (S d.t)∧wx.cell? ⟨w.heap.size,7,none⟩=some (.slice dr d.s.len dc)∧wx.cell? ⟨w.heap.size,8,none⟩=some (.bool d.d)):=fun wx hb=>keepZ hb z0
    obtain ⟨z0,z1,z2,z3,z4,z5,z6,z7,z8⟩:=z0
    have hmx:Tryz.prog.follows .mixedOrders=true:=by kernel_rfl
    first
    | go_region_held3 (fun wx=>(wx.cell? ⟨w.heap.size,0,none⟩=some (.int .u8 m)∧wx.cell? ⟨w.heap.size,1,none⟩=some (S t)∧wx.cell? ⟨w.heap.size,2,none⟩=some (.slice nr ns.length nc)∧wx.cell? ⟨w.heap.size,3,none⟩=some (.slice kr ks.len kc)∧wx.cell? ⟨w.heap.size,4,none⟩=some (.int .u8 d.k)∧wx.cell? ⟨w.heap.size,5,none⟩=some (.int .i64 d.n)∧wx.cell? ⟨w.heap.size,6,none⟩=some (S d.t)∧wx.cell? ⟨w.heap.size,7,none⟩=some (.slice dr d.s.len dc)∧wx.cell? ⟨w.heap.size,8,none⟩=some (.bool d.d)))
      (first|(go_keep;done)|exact mk _ hbV)
      (first
       | (go_at_call 124;refine (HVC.out _).mono ?_;rintro e wV ⟨rfl,hxV⟩;have hbV:Below w6.heap.size w6 wV:=(Below.refl _ w6).drew.trans hxV))
    | fail
    have HHV:Hid (WH w wV ⟨(m:Int),t,ns,ks,d⟩ (.slice nr ns.length nc) (.slice kr ks.len kc) (.slice dr d.s.len dc)):=HH6.out.step (hbV.mono HH6.out.lt)
    have HTV:Hid (Tree wV (w.heap.size+2) (.slice ra6 (W0.len+A0.len) c6) (W0.app A0)):=HT6.out.kept (fun g _ hg=>hbV.block g hg)
    clear mk z0 z1 z2 z3 z4 z5 z6 z7 z8 hxV hbV HH6 HT6 HVC
    obtain ⟨kb,ko,hkz,hKd⟩:=HR.out.k
    obtain ⟨p0,g0,hp0,hl0,hRd0⟩:=hKd.split HV.out
    have hp0:ks=p0.app g0:=hp0
    have HP0:Hid (ks=p0.app g0):=hp0
    have hks:ks.len=vn+g0.len:=by have e:=congrArg Fm.len hp0;rw [Fm.len_app,hl0] at e;exact e
    have HRd0:Hid (RdF w g0 kb (ko+vn*9)):=hRd0
    have HA0:Hid (EachF WrK g0):=by have h:=HA.out;rw [hp0] at h;exact h.tail
    have HD:Hid ((wrF ks).drop vn=wrF g0):=by show _=_;rw [hp0,wrF_app];exact drop_app (by rw [wrF_len,hl0])
    obtain ⟨kr2,hkr2⟩:∃x,(if kc=vn then kr else Option.map (fun x=>x.add (vn*9)) kr)=x:=⟨_,rfl⟩
    have Hkr2:Hid (g0.len≠0→kr2=some ⟨kb,ko+vn*9,none⟩):=fun h0=>by
     have hk:kr=some ⟨kb,ko,none⟩:=hkz.resolve_left (by show ¬ ks.len=0;omega)
     have hc:¬ kc=vn:=by have:=Hkc.out;omega
     rw [←hkr2,if_neg hc,hk];simp [Addr.add]
    have hgl:g0.len≤1000000:=by have h:ks.len≤1000000:=HF.out.kl;omega
    rw [hkr2,show ks.len-vn=g0.len by omega]
    clear hkz hKd hp0 hl0 hRd0 hkr2 hks hv1 hv0
    go_wp2_with fail
    go_loopw [3,48] (fun nv i wr=>∃(j:Nat) (p g:Fm),i = .int .i64 j∧g.len+j=g0.len∧Hid (g0=p.app g)∧Hid (p.len=j)∧Hid (RdF w g kb (ko+vn*9+j*9))∧Hid (EachF WrK g)∧Hid (Tree wr (w.heap.size+2) nv ((W0.app A0).app (wrF p)))∧Hid (((W0.app A0).app (wrF p)).len=W0.len+A0.len+j)∧Hid (WH w wr ⟨(m:Int),t,ns,ks,d⟩ (.slice nr ns.length nc) (.slice kr ks.len kc) (.slice dr d.s.len dc))) (fun _ i _=>g0.len-(intOf i).toNat)
    case atStart=>exact ⟨0, .nil,g0,rfl,by simp,rfl,rfl,by simpa using HRd0,HA0,by show Tree _ _ _ _;rw [show wrF .nil=Fo.nil from rfl,Fo.app_nil];exact HTV.out,by show _=_;rw [show wrF .nil=Fo.nil from rfl,Fo.app_nil,Fo.len_app];rfl,HHV⟩
    case round =>
     obtain ⟨j,p,g,rfl,hj,HP,HPL,HG,HAg,HT,HTL,HH⟩:=hrel
     obtain ⟨rv,cv,hv⟩:=HT.out.slice
     rw [HTL.out] at hv
     subst hv
     have hlt:=HH.out.lt
     have hw0:=HW0l.out
     have ha0:=HAL.out
     cases g with
     | nil =>
      have hj' : j=g0.len:=by simpa [Fm.len] using hj
      have k1:¬ ((j:Int)<(g0.len:Int)):=by omega
      have Hq:Hid ((W0.app A0).app (wrF p)=((W0.app A0).app ((wrF ks).drop vn))):=by
       show _=_;rw [HD.out,HP.out,Fm.app_nil]
      clear hj hj'
      go_wp2_with fail
      refine (flist_any rv (W0.len+A0.len+j) cv wr).mono ?_
      rintro e w3 ⟨rfl,hb3⟩
      have HH3:Hid (WH w w3 ⟨(m:Int),t,ns,ks,d⟩ (.slice nr ns.length nc) (.slice kr ks.len kc) (.slice dr d.s.len dc)):=HH.out.step (hb3.mono hlt)
      have HT3:Hid (Tree w3 (w.heap.size+2) (.slice rv (W0.len+A0.len+j) cv) ((W0.app A0).app (wrF p))):=HT.out.kept (fun g _ hg=>hb3.block g hg)
      obtain ⟨z0,z1,z2,z3,z4,zf⟩:=cells5 HH3.out.q1
      have g0:=zf 0
      have g1:=zf 1
      have g2:=zf 2
      have g3:=zf 3
      have g4:=zf 4
      clear zf hb3
      go_wp2_with fail
      refine bodyPost_five (s:=2) rfl rfl rfl HH3.out.q1 fun W5 o5 b5=>?_
      have hf:=HH3.out.fin HT3.out o5 (b5 (w.heap.size) (w.heap.size+1) (by omega))
      rw [HM.out, ←Hq.out]
      exact ⟨_,rfl,hf.1,hf.2⟩
     | cons k t2 ns2 ks2 dk dn dt ds dd g =>
      simp only [Fm.len] at hj
      have k1:(j:Int)<(g0.len:Int):=by omega
      have hkr:=Hkr2.out (by omega)
      subst hkr
      obtain ⟨hb0,nr2,nc2,kr2,kc2,dr2,dc2,⟨d0,d1,d2,d3,d4,d5,d6,d7,d8⟩,hrf,hr,hkc2⟩:=rdf_cons2 HG.out
      have bel:=HH.out.b
      have e0:=below_cells bel _ _ d0
      have e1:=below_cells bel _ _ d1
      have e2:=below_cells bel _ _ d2
      have e3:=below_cells bel _ _ d3
      have e4:=below_cells bel _ _ d4
      have e5:=below_cells bel _ _ d5
      have e6:=below_cells bel _ _ d6
      have e7:=below_cells bel _ _ d7
      have e8:=below_cells bel _ _ d8
      have HRF:Hid (RFo w ⟨k,t2,ns2,ks2,⟨dk,dn,dt,ds,dd⟩⟩ nr2 kr2 dr2):=hrf
      have Hr:Hid (RdF w g kb (ko+vn*9+j*9+9)):=hr
      have HC:Hid (WrK ⟨k,t2,ns2,ks2,⟨dk,dn,dt,ds,dd⟩⟩):=HAg.out.1
      have HAr2:Hid (EachF WrK g):=HAg.out.2
      have Hkc2:Hid (ks2.len≤kc2):=hkc2
      clear d0 d1 d2 d3 d4 d5 d6 d7 d8 hrf hr hkc2 hb0
      obtain ⟨w3,hw3⟩:∃w3,wr.alloc (Z9 ⟨k,t2,ns2,ks2,⟨dk,dn,dt,ds,dd⟩⟩ (.slice nr2 ns2.length nc2) (.slice kr2 ks2.len kc2) (.slice dr2 ds.len dc2))=w3:=⟨_,rfl⟩
      have a3:=(Below.refl _ wr).alloc (Nat.le_refl wr.heap.size) (Z9 ⟨k,t2,ns2,ks2,⟨dk,dn,dt,ds,dd⟩⟩ (.slice nr2 ns2.length nc2) (.slice kr2 ks2.len kc2) (.slice dr2 ds.len dc2))
      have q3:=World.alloc_heap_new wr (Z9 ⟨k,t2,ns2,ks2,⟨dk,dn,dt,ds,dd⟩⟩ (.slice nr2 ns2.length nc2) (.slice kr2 ks2.len kc2) (.slice dr2 ds.len dc2))
      rw [hw3] at a3 q3
      obtain ⟨⟨u0,u1,u2,u3,u4,u5,u6,u7,u8⟩,_⟩:=cells9 q3
      have b3:Below w.heap.size w w3:=bel.trans (a3.mono bel.size)
      have HH3:Hid (WH w w3 ⟨(m:Int),t,ns,ks,d⟩ (.slice nr ns.length nc) (.slice kr ks.len kc) (.slice dr d.s.len dc)):=HH.out.step (a3.mono hlt)
      have HT3:Hid (Tree w3 (w.heap.size+2) (.slice rv (W0.len+A0.len+j) cv) ((W0.app A0).app (wrF p))):=HT.out.kept (fun g _ hg=>a3.block g hg)
      obtain ⟨⟨xk,xn,xt,xs,xd⟩,hX⟩:∃X,wrD ⟨k,t2,ns2,ks2,⟨dk,dn,dt,ds,dd⟩⟩=X:=⟨_,rfl⟩
      have HWK:Hid (Calls Tryz.prog 83 #[frmV ⟨k,t2,ns2,ks2,⟨dk,dn,dt,ds,dd⟩⟩ (.slice nr2 ns2.length nc2) (.slice kr2 ks2.len kc2) (.slice dr2 ds.len dc2)] w3 fun e w' => ∃rz cz,e = .returned (.agg #[.int .u8 xk, .int .i64 xn,S xt, .slice rz xs.len cz, .bool xd])∧Tree w' w3.heap.size (.slice rz xs.len cz) xs∧Below w3.heap.size w3 w'):=(HC.out nr2 kr2 dr2 nc2 kc2 dc2 w3 (HRF.out.below b3) Hkc2.out (HE.out.below b3)).mono (by
       rintro e w' ⟨v,rfl,hT,hb⟩
       rw [hX] at hT ⊢
       obtain ⟨rz,cz,rfl⟩:=hT.slice
       exact ⟨rz,cz,rfl,hT,hb⟩)
      have HXD:Hid _:=hX
      clear a3 q3 hX bel b3
      go_wp2_with fail
      refine HWK.out.mono ?_
      rintro e w4 ⟨rz,cz,rfl,hT4,hb4⟩
      obtain ⟨cs,bs,ho3,hrr3,hnd⟩:=HT3.out.ex
      rw [HTL.out] at ho3
      have Hold:Hid (∀y∈own1 (.slice rv (W0.len+A0.len+j) cv)++bs,y<w3.heap.size):=by
       show ∀y∈own1 (.slice rv (W0.len+A0.len+j) cv)++bs,y<w3.heap.size
       intro y hy
       rcases List.mem_append.1 hy with h|h
       ·exact (ho3.lt y (mem_own1.1 h)).2
       ·exact (hrr3.lt y h).2
      have Ho:Hid (w4.ownsRow (w.heap.size+2) 32 5 (.slice rv (W0.len+A0.len+j) cv) (W0.len+A0.len+j) cs):=own_same ho3 (fun g hg=>hb4.block g (ho3.lt g hg).2)
      have Hrr:Hid (Row w4 (w.heap.size+2) ((W0.app A0).app (wrF p)) cs bs):=hrr3.kept (fun g hg=>hb4.block g (hrr3.lt g hg).2)
      have Hnd:Hid (own1 (.slice rv (W0.len+A0.len+j) cv)++bs).Nodup:=hnd
      have HT4:Hid (Tree w4 w3.heap.size (.slice rz xs.len cz) xs):=hT4
      have hs4:=hb4.size
      have hl3:=HH3.out.lt
      have HH4:Hid (WH w w4 ⟨(m:Int),t,ns,ks,d⟩ (.slice nr ns.length nc) (.slice kr ks.len kc) (.slice dr d.s.len dc)):=HH3.out.step (hb4.mono hl3)
      have hl4:=HH4.out.lt
      obtain ⟨i0,hi0,hz0,hz1,hz2⟩:=info_parts infoDat
      clear hT4 ho3 hrr3 hnd e0 e1 e2 e3 e4 e5 e6 e7 e8 u0 u1 u2 u3 u4 u5 u6 u7 u8 hw3 hb4
      go_wp2_with (at_builtin;refine stop_of ?_)
      unfold Hid
      refine wpList_append_lies _ rfl _ _ 30 rfl (w.heap.size+2) 32 i0 (.agg #[.int .u8 0, .int .i64 0, .string ⟨#[]⟩, .slice none 0 0, .bool false]) 5 64 Tryz.underlying30 hi0 hz0 hz1 hz2 rfl (by decide) (.slice rv (W0.len+A0.len+j) cv) (W0.len+A0.len+j) cs rfl (World.ownsRow.alloc Ho.out _) ⟨_,0,none⟩ 1 1 [.int .u8 xk, .int .i64 xn,S xt, .slice rz xs.len cz, .bool xd] rfl rfl (cell_five_at _ _ (by simp) _ _ _ _ _ _) (five_one _ _ _ _ _ _ _) (by omega) (by unfold maxLen;omega) (by omega) (by simp;omega) _ rfl ?_
      intro g6 cap6 w6 hown hgr hat hlt6
      obtain ⟨ncs,nbs,nho,nhr,nnd⟩:=HT4.out.ex
      have HTX:=tree_append (World.ownsRow.alloc Ho.out _) (Hrr.out.alloc _) Hnd.out (((Row.single (k:=xk) (n:=xn) (t:=xt) (d:=xd) nho nhr).alloc _).mono (by omega)) nnd (fun y hy hm=>by
        have h1:=((Row.single (k:=xk) (n:=xn) (t:=xt) (d:=xd) nho nhr).lt y hy).1
        have:=Hold.out y hm
        omega) HTL.out rfl hown hgr (hat.imp (fun h=>h.symm) (fun h=>by rw [h];rfl))
      have HW1:Hid (wrF (p.app (.cons k t2 ns2 ks2 dk dn dt ds dd .nil))=(wrF p).app (.cons xk xn xt xs xd .nil)):=by
       show _=_
       rw [wrF_app]
       have e1:wrF (.cons k t2 ns2 ks2 dk dn dt ds dd .nil) = .cons xk xn xt xs xd .nil:=by
        show (wrD ⟨k,t2,ns2,ks2,⟨dk,dn,dt,ds,dd⟩⟩).fo .nil=_
        rw [HXD.out];rfl
       rw [e1]
      have HT6:Hid (Tree w6 (w.heap.size+2) (.slice (some ⟨g6,0,none⟩) (W0.len+A0.len+j+1) cap6) ((W0.app A0).app (wrF (p.app (.cons k t2 ns2 ks2 dk dn dt ds dd .nil))))):=by
       rw [HW1.out, ←Fo.app_assoc]
       exact ⟨_,_,HTX⟩
      have HTL6:Hid (((W0.app A0).app (wrF (p.app (.cons k t2 ns2 ks2 dk dn dt ds dd .nil)))).len=W0.len+A0.len+(j+1)):=by
       show _=_
       rw [HW1.out, ←Fo.app_assoc,Fo.len_app,HTL.out];rfl
      have hoa:=World.ownsRow.alloc Ho.out (.cells #[.int .u8 xk, .int .i64 xn,S xt, .slice rz xs.len cz, .bool xd] 32)
      have HH6:Hid (WH w w6 ⟨(m:Int),t,ns,ks,d⟩ (.slice nr ns.length nc) (.slice kr ks.len kc) (.slice dr d.s.len dc)):=by
       have a6:=(Below.refl _ w4).alloc hl4 (.cells #[.int .u8 xk, .int .i64 xn,S xt, .slice rz xs.len cz, .bool xd] 32)
       exact HH4.out.step (a6.trans ((Below.refl _ _).grown hgr (by rw [World.size_alloc];omega) (fun k' hk=>(hoa.lt k' hk).1)))
      clear hown hgr hat hlt6 HTX nho nhr nnd hoa
      go_wp2_with fail
      go_roundw
      case rel=>exact ⟨j+1,p.app (.cons k t2 ns2 ks2 dk dn dt ds dd .nil),g,by go_num,by omega,by show _=_;rw [HP.out,Fm.app_assoc];rfl,by show _=_;rw [Fm.len_app,HPL.out];rfl,by have:=Hr.out;show RdF w g kb (ko+vn*9+(j+1)*9);rw [show ko+vn*9+(j+1)*9=ko+vn*9+j*9+9 by omega];exact this,HAr2,HT6,HTL6,HH6⟩
      case measure=>simp [intOf];omega
def backM (f:Frm):Dt × Int:=if termsE false (f.fm .nil)≠0 then (dt0,termsE false (f.fm .nil)) else if canB (wrD f) then (wrD f,0) else (dt0,70)
theorem results5s {fn:Func} {tmps:Array Value} {s u b:Nat} {v0 v1 v2 v3 v4 x:Value} {W:World} (hres:fn.results = #[.cell s 32, .tmp u]) (hs:tmps[s]?=some (.pointer (some ⟨b,0,none⟩))) (hu:tmps[u]?=some x) (h:W.heap[b]?=some (.cells #[v0,v1,v2,v3,v4] 32 (0,0))) :
  (results fn tmps).run Tryz.prog W = .ok (.tuple #[.agg #[v0,v1,v2,v3,v4],x]) W:=by
 obtain ⟨c0,c1,c2,c3,c4,_⟩:=cells5 h
 obtain ⟨l1,e1⟩:=Array.getElem?_eq_some_iff.1 hs
 obtain ⟨l3,e3⟩:=Array.getElem?_eq_some_iff.1 hu
 simp [results,hres,go_sem,l1,e1,l3,e3,c0,c1,c2,c3,c4]
theorem bodyPost_fives {fn:Func} {R:Ending→World→Prop} {a:Act} {s u b:Nat} {w6:World} {a0 a1 a2 a3 a4 v0 v1 v2 v3 v4 x:Value} (hres:fn.results = #[.cell s 32, .tmp u]) (hs:a.tmps[s]?=some (.pointer (some ⟨b,0,none⟩))) (hu:a.tmps[u]?=some x) (hd:a.defers=[])
  (h:w6.heap[b]?=some (.cells #[a0,a1,a2,a3,a4] 32 (0,0)))
  (hR:∀W5:World,(∀g,g≠b→W5.heap[g]?=w6.heap[g]?)→(∀B rb,B≤b→ButB B rb w6 W5)→R (.returned (.tuple #[.agg #[v0,v1,v2,v3,v4],x])) W5) :
  bodyPost Tryz.prog fn R .ret a (((((w6.setCell ⟨b,0,none⟩ v0).setCell ⟨b,1,none⟩ v1).setCell ⟨b,2,none⟩ v2).setCell ⟨b,3,none⟩ v3).setCell ⟨b,4,none⟩ v4):=by
 have h5:=five_at h v0 v1 v2 v3 v4
 have o5:∀g,g≠b→(five b w6 v0 v1 v2 v3 v4).heap[g]?=w6.heap[g]?:=fun g hg=>five_other hg _ _ _ _ _
 have b5:∀B rb,B≤b→ButB B rb w6 (five b w6 v0 v1 v2 v3 v4):=fun B rb hB=>(((((ButB.refl B rb w6).set hB v0).set hB v1).set hB v2).set hB v3).set hB v4
 unfold five at h5 o5 b5
 generalize ((((w6.setCell ⟨b,0,none⟩ v0).setCell ⟨b,1,none⟩ v1).setCell ⟨b,2,none⟩ v2).setCell ⟨b,3,none⟩ v3).setCell ⟨b,4,none⟩ v4=W5 at h5 o5 b5 ⊢
 exact ⟨hd,_,results5s hres hs hu h5,hR W5 o5 b5⟩
def ShB:Fm→Prop
 | .nil=>True
 | .cons k _ ns ks _ _ _ _ _ r=>(∃m:Nat,k=(m:Int)∧1≤m∧m<16)∧(k=8→ns.length≤ks.len)∧ShB ks∧ShB r
theorem valsN_le {f:Frm} (h:f.kind=8→f.names.length≤f.kids.len):valsN f≤f.kids.len:=by
 unfold valsN
 split
 ·exact h (by assumption)
 ·exact Nat.zero_le _
theorem wrk_of (f:Frm) (hF:FOk f) (hk:∃m:Nat,f.kind=(m:Int)∧1≤m∧m<16) (hv:f.kind=8→f.names.length≤f.kids.len) (hall:EachF WrK f.kids):WrK f:=by
 intro nr kr dr nc kc dc w hR hkc hE
 obtain ⟨k,t,ns,ks,d⟩:=f
 obtain ⟨m,rfl,h1,h2⟩:∃m:Nat,k=(m:Int)∧1≤m∧m<16:=hk
 by_cases e2:m=2
 ·exact written_sym _ nr kr dr nc kc dc w (by subst e2;rfl)
 by_cases e1:m=1∧itselfB d.k=true
 ·obtain ⟨rfl,hi⟩:=e1
  exact written_self _ nr kr dr nc kc dc w hF hR rfl hi
 exact written_list m t ns ks d nr kr dr nc kc dc w hF hR hkc hE h1 h2 e2 (fun e=>by simpa using fun h=>e1 ⟨e,h⟩) (valsN_le (f:=⟨(m:Int),t,ns,ks,d⟩) hv) hall
theorem wrk_all:∀g:Fm,g.oks→ShB g→EachF WrK g
 | .nil,_,_=>trivial
 | .cons _ _ _ ks _ _ _ _ _ r,⟨hF,hk,hr⟩,⟨h1,h2,h3,h4⟩=>⟨wrk_of _ hF h1 h2 (wrk_all ks hk h3),wrk_all r hr h4⟩
theorem written_any (f:Frm) (hF:FOk f) (hO:f.kids.oks) (hS:ShB (f.fm .nil)):WrK f:=wrk_of f hF hS.1 hS.2.1 (wrk_all f.kids hO hS.2.2.1)
theorem shaped_kind {f:Frm} (h:shapedB f=true):∃m:Nat,f.kind=(m:Int)∧1≤m∧m<16:=by
 unfold shapedB at h
 split at h
 ·cases h
 ·exact ⟨f.kind.toNat,by omega,by omega,by omega⟩
theorem takes_let {n:Int} (h:takesB 8 n=true):0≤n:=by
 unfold takesB at h
 have e:(shpOf 8).2.2.1=1:=by decide
 rw [e] at h
 simp only [Bool.and_eq_true,decide_eq_true_eq] at h
 omega
theorem shaped_vals {f:Frm} (h:shapedB f=true) (h8:f.kind=8):f.names.length≤f.kids.len:=by
 have hv:valsN f=f.names.length:=by unfold valsN;rw [if_pos h8]
 unfold shapedB at h
 rw [if_neg (by omega),h8,hv] at h
 simp only [Bool.and_eq_true] at h
 have:=takes_let h.1.1.1.1
 omega
theorem termE_shaped {f:Frm} {inn:Bool} (h:termE f inn=0):shapedB f=true:=by
 unfold termE at h
 cases hs:shapedB f with
 | true=>rfl
 | false=>rw [hs] at h;simp at h
theorem shb_of:∀(g:Fm) (inn:Bool),termsE inn g=0→ShB g
 | .nil,_,_=>trivial
 | .cons k t ns ks dk dn dt ds dd r,inn,h=>by
  simp only [termsE] at h
  by_cases h1:termE ⟨k,t,ns,ks,⟨dk,dn,dt,ds,dd⟩⟩ inn=0
  ·rw [if_neg (by simpa using h1)] at h
   by_cases h2:termsE true ks=0
   ·rw [if_neg (by simpa using h2)] at h
    have hs:=termE_shaped h1
    exact ⟨shaped_kind hs,fun h8=>shaped_vals hs h8,shb_of ks true h2,shb_of r inn h⟩
   ·rw [if_pos h2] at h;exact absurd h h2
  ·rw [if_pos h1] at h;exact absurd h h1
theorem tx_app:∀{f g:Fo},f.tx→g.tx→(f.app g).tx
 | .nil,_,_,hg=>hg
 | .cons _ _ _ _ _ _,_,⟨h1,h2,h3⟩,hg=>⟨h1,h2,tx_app h3 hg⟩
theorem tx_drop:∀{n:Nat} {f:Fo},f.tx→(f.drop n).tx
 | 0,_,h=>h
 | _+1, .nil,h=>h
 | n+1, .cons _ _ _ _ _ _,⟨_,_,h3⟩=>tx_drop (n:=n) h3
theorem tx_syms:∀{l:List (List UInt8)},(∀s∈l,s.length≤281474976710656)→(symsF l).tx
 | [],_=>trivial
 | s::r,h=>⟨h s (by simp),trivial,tx_syms fun s hs=>h s (by simp [hs])⟩
theorem tx_zip:∀{l:List (List UInt8)} {f:Fo},(∀s∈l,s.length≤281474976710656)→f.tx→(zipB l f).tx
 | [],f,_,_=>by cases f<;>trivial
 | _::_, .nil,_,_=>trivial
 | s::l, .cons k n t s' d q,h,⟨h1,h2,h3⟩=>⟨by simp,⟨h s (by simp),trivial,h1,h2,trivial⟩,tx_zip (fun s hs=>h s (by simp [hs])) h3⟩
theorem shp_len (m:Nat):(shpOf m).1.length≤281474976710656:=by
 unfold shpOf shpL
 match m-1 with
 | 0|1|2|3|4|5|6|7|8|9|10|11|12|13|14=>simp
 | _+15=>simp
theorem wr1_tx {f:Frm} {W:Fo} (hF:FOk f) (hW:W.tx):(wr1 f W).t.length≤281474976710656∧(wr1 f W).s.tx:=by
 unfold wr1
 split
 ·exact ⟨hF.t,trivial⟩
 split
 ·exact ⟨hF.d.t,hF.d.tx⟩
 refine ⟨by simp [listD],?_⟩
 refine tx_app (tx_app ?_ ?_) (tx_drop hW)
 ·unfold wordF
  split
  ·trivial
  ·exact ⟨shp_len _,trivial,trivial⟩
 ·unfold aheadF
  split
  ·exact ⟨hF.d.t,hF.d.tx,trivial⟩
  split
  ·exact ⟨hF.t,trivial,trivial⟩
  split
  ·exact ⟨by simp [listD],tx_syms hF.ns,trivial⟩
  split
  ·exact ⟨by simp [listD],tx_zip hF.ns hW,trivial⟩
  ·trivial
theorem wrF_tx:∀g:Fm,g.oks→(wrF g).tx
 | .nil,_=>trivial
 | .cons k t ns ks dk dn dt ds dd r,⟨hF,hk,hr⟩=>by
  have:=wr1_tx hF (wrF_tx ks hk)
  exact ⟨this.1,this.2,wrF_tx r hr⟩
theorem wrD_ok {f:Frm} (hF:FOk f) (hO:f.kids.oks) (hw:(f.fm .nil).wt≤900000):DOk (wrD f):=by
 have h:=wr1_tx hF (wrF_tx f.kids hO)
 refine ⟨?_,h.1,h.2⟩
 have h1:=wr1_size f (wrF f.kids)
 have h2:=wrF_size f.kids
 have h3:(f.fm .nil).wt=4+2*f.names.length+f.kids.wt+f.dat.s.size+0:=rfl
 unfold wrD
 omega
end Go.Proofs.YtkgnigloboajcaaGreatDoor
