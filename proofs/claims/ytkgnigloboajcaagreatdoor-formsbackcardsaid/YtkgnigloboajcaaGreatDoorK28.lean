/- A name that comes twice; names that may not be.; A term's names, its datum, its call.; A call of a primitive takes so many. -/
import Derived.Test.YtkgnigloboajcaaGreatDoorK27
import Derived.Shelf.RegionOpenPlain
set_option maxRecDepth 100000
set_option maxHeartbeats 4000000
namespace Go.Proofs.YtkgnigloboajcaaGreatDoor
open Go.RowKit Go.Maps Go.ChangeMaps
theorem twice_any (l:List (List UInt8)) (ra:Option Addr) (c:Nat) (w:World) (hR:RN w ra l) (hl:l.length≤1000000) (hs:∀s∈l,s.length≤281474976710656) :
  Calls Tryz.prog 155 #[.slice ra l.length c] w fun e w' => e = .returned (.bool (twiceB [] l))∧Below w.heap.size w w' := by
 obtain ⟨b,o,hz,hRd⟩:=hR
 have Hra:Hid (l≠[]→ra=some ⟨b,o,none⟩):=fun h=>hz.resolve_left h
 have HRd:Hid (∀(j:Nat) (s:List UInt8),l[j]?=some s→w.cell? ⟨b,o+j,none⟩=some (S s)):=hRd
 have HS:Hid (∀s∈l,s.length≤281474976710656):=hs
 have mm:(Instr.makeMap 137 none).run Tryz.prog w = .ok (.map (some w.heap.size)) (w.alloc (.map #[] 0)):=run_makeMap (P:=Tryz.prog) 137 w
 have HM2:Hid (NM (w.alloc (.map #[] 0)) w.heap.size 0 []):=NM.made w
 have HB2:Hid (Below w.heap.size w (w.alloc (.map #[] 0))):=(Below.refl _ w).alloc (Nat.le_refl _) _
 clear hz hRd hs
 go_enter Tryz.func155,Tryz.ntmps155
 go_upto_region 3 with fail
 generalize w.alloc (.map #[] 0)=w2 at *
 clear mm
 go_loopw [9] (fun i wr=>∃(j:Nat) (q r:List (List UInt8)),i = .int .i64 j∧r.length+j=l.length∧Hid (l=q++r)∧Hid (q.length=j)∧Hid (NM wr w.heap.size j q)∧Hid (Below w.heap.size w wr)∧Hid (twiceB [] l=twiceB q r)) (fun i _=>l.length-(intOf i).toNat)
 case atStart=>exact ⟨0,[],l,rfl,by simp,rfl,rfl,HM2,HB2,rfl⟩
 case round =>
  obtain ⟨j,q,r,rfl,hj,HQ,HL,HM,HB,HE⟩:=hrel
  cases r with
  | nil =>
   have hj' : j=l.length:=by simpa using hj
   have i1:¬ ((j:Int)<(l.length:Int)):=by omega
   clear hj hj'
   go_wp2
   go_ret
   exact ⟨by rw [HE.out];rfl,HB.out⟩
  | cons s r =>
   simp only [List.length_cons] at hj
   have i1:(j:Int)<(l.length:Int):=by omega
   have hat:l[j]?=some s:=by rw [HQ.out,List.getElem?_append_right (Nat.le_of_eq HL.out),HL.out,Nat.sub_self];rfl
   have hra:=Hra.out (fun e=>by rw [e] at hat;cases hat)
   subst hra
   have hc:=HRd.out j s hat
   have hlt:=cell_lt hc
   have e0:=(HB.out.cell (p:=⟨b,o+j,none⟩) hlt).trans hc
   have HSs:Hid (s.length≤281474976710656):=HS.out s (List.mem_of_getElem? hat)
   have HST:Hid (twiceB [] l=(decide (s∈q) || twiceB (q++[s]) r)):=HE.out
   clear hat hc hlt
   go_wp2_with fail
   refine (add_set wr w.heap.size j q s HM.out (by omega) HSs.out).mono ?_
   rintro e w3 ⟨rfl,hn3,hs3,hb3,o3,t3,u3⟩
   have HM3:Hid (NM w3 w.heap.size (j+1) (q++[s])):=hn3
   have HB3:Hid (Below w.heap.size w w3):=HB.out.trans ⟨o3,t3,u3,hs3,fun g hg=>hb3 g (by have:=HB.out.size;omega) (by omega)⟩
   clear hn3 hs3 hb3 o3 t3 u3 e0
   cases hm:decide (s∈q) with
   | true =>
    have HD:Hid _:=hm
    go_wp2_with fail
    go_ret
    exact ⟨by rw [HST.out,HD.out];rfl,HB3.out⟩
   | false =>
    have HD:Hid _:=hm
    go_wp2_with fail
    refine ⟨⟨j+1,q++[s],r,by simp,by omega,by show _=_;rw [HQ.out];simp,by show _=_;rw [List.length_append,HL.out];rfl,HM3,HB3,by show _=_;rw [HST.out,HD.out];rfl⟩,?_⟩
    simp only [intOf]
    omega
theorem noVar_any (s:List UInt8) (w:World) (hs:s.length≤281474976710656) (hE:Env w):Calls Tryz.prog 177 #[S s] w fun e w' => e = .returned (.bool (!varB s))∧Below w.heap.size w w' := by
 have HE:Hid (Env w):=hE
 clear hE
 go_enter Tryz.func177,Tryz.ntmps177
 go_wp2_with fail
 refine (isVar_any s w hs HE.out).mono ?_
 rintro e w1 ⟨rfl,hb1⟩
 have HB:Hid (Below w.heap.size w w1):=hb1
 clear hb1
 go_wp2
 go_ret
 exact ⟨rfl,HB.out⟩
abbrev nvF:Value := .func (.func 177) #[] #[]
theorem index_any (l:List (List UInt8)) (ra:Option Addr) (c:Nat) (w:World) (hR:RN w ra l) (hl:l.length≤1000000) (hs:∀s∈l,s.length≤281474976710656) (hE:Env w) :
  Calls Tryz.prog 186 #[.slice ra l.length c,nvF] w fun e w' => (∃v:Int,e = .returned (.int .i64 v)∧decide (0≤v) = !l.all varB)∧Below w.heap.size w w' := by
 obtain ⟨b,o,hz,hRd⟩:=hR
 have Hra:Hid (l≠[]→ra=some ⟨b,o,none⟩):=fun h=>hz.resolve_left h
 have HRd:Hid (∀(j:Nat) (s:List UInt8),l[j]?=some s→w.cell? ⟨b,o+j,none⟩=some (S s)):=hRd
 have HS:Hid (∀s∈l,s.length≤281474976710656):=hs
 have HE:Hid (Env w):=hE
 clear hz hRd hs hE
 go_enter Tryz.func186,Tryz.ntmps186
 go_upto_region 2 with fail
 go_loopw [8] (fun i wr=>∃(j:Nat) (q r:List (List UInt8)),i = .int .i64 j∧r.length+j=l.length∧Hid (l=q++r)∧Hid (q.length=j)∧Hid (Below w.heap.size w wr)∧Hid (l.all varB=r.all varB)) (fun i _=>l.length-(intOf i).toNat)
 case atStart=>exact ⟨0,[],l,rfl,by simp,rfl,rfl,Below.refl _ _,rfl⟩
 case round =>
  obtain ⟨j,q,r,rfl,hj,HQ,HL,HB,HA⟩:=hrel
  cases r with
  | nil =>
   have hj' : j=l.length:=by simpa using hj
   have i1:¬ ((j:Int)<(l.length:Int)):=by omega
   clear hj hj'
   go_wp2
   go_ret
   exact ⟨⟨-1,rfl,by rw [HA.out];rfl⟩,HB.out⟩
  | cons s r =>
   simp only [List.length_cons] at hj
   have i1:(j:Int)<(l.length:Int):=by omega
   have hat:l[j]?=some s:=by rw [HQ.out,List.getElem?_append_right (Nat.le_of_eq HL.out),HL.out,Nat.sub_self];rfl
   have hra:=Hra.out (fun e=>by rw [e] at hat;cases hat)
   subst hra
   have hc:=HRd.out j s hat
   have hlt:=cell_lt hc
   have e0:=(HB.out.cell (p:=⟨b,o+j,none⟩) hlt).trans hc
   have HSs:Hid (s.length≤281474976710656):=HS.out s (List.mem_of_getElem? hat)
   have HST:Hid (l.all varB=(varB s && r.all varB)):=by show _=_;rw [HA.out];rfl
   clear hat hc hlt
   go_wp2_with fail
   refine (noVar_any s wr HSs.out (HE.out.below HB.out)).mono ?_
   rintro e w3 ⟨rfl,hb3⟩
   have HB3:Hid (Below w.heap.size w w3):=HB.out.trans (hb3.mono HB.out.size)
   clear hb3 e0
   cases hm:varB s with
   | false =>
    have HD:Hid _:=hm
    simp only [Bool.not_false]
    go_wp2_with fail
    go_ret
    exact ⟨⟨j,rfl,by rw [HST.out,HD.out];simp⟩,HB3.out⟩
   | true =>
    have HD:Hid _:=hm
    simp only [Bool.not_true]
    go_wp2_with fail
    refine ⟨⟨j+1,q++[s],r,by simp,by omega,by show _=_;rw [HQ.out];simp,by show _=_;rw [List.length_append,HL.out];rfl,HB3,by show _=_;rw [HST.out,HD.out];rfl⟩,?_⟩
    simp only [intOf]
    omega
theorem contains_any (l:List (List UInt8)) (ra:Option Addr) (c:Nat) (w:World) (hR:RN w ra l) (hl:l.length≤1000000) (hs:∀s∈l,s.length≤281474976710656) (hE:Env w) :
  Calls Tryz.prog 176 #[.slice ra l.length c,nvF] w fun e w' => e = .returned (.bool (!l.all varB))∧Below w.heap.size w w' := by
 have HC:=index_any l ra c w hR hl hs hE
 have HH:Hid (Calls Tryz.prog 186 #[.slice ra l.length c,nvF] w fun e w' => (∃v:Int,e = .returned (.int .i64 v)∧decide (0≤v) = !l.all varB)∧Below w.heap.size w w'):=HC
 clear HC hR hs hE
 go_enter Tryz.func176,Tryz.ntmps176
 go_wp2_with fail
 refine HH.out.mono ?_
 rintro e w1 ⟨⟨v,rfl,hv⟩,hb1⟩
 have HB:Hid (Below w.heap.size w w1):=hb1
 have HV:Hid (decide (0≤v) = !l.all varB):=hv
 clear hb1 hv
 go_wp2
 go_ret
 exact ⟨by rw [←HV.out];simp,HB.out⟩
theorem named_of (f:Frm) (nr kr dr:Option Addr) (nc kc dc:Nat) (w:World) (hF:FOk f) (hR:RFo w f nr kr dr) (hE:Env w) :
  Calls Tryz.prog 154 #[frmV f (.slice nr f.names.length nc) (.slice kr f.kids.len kc) (.slice dr f.dat.s.len dc)] w fun e w' => e = .returned (.bool (namedB f))∧Below w.heap.size w w' := by
 obtain ⟨W1,hW1⟩:∃W1,w.alloc (Z9 f (.slice nr f.names.length nc) (.slice kr f.kids.len kc) (.slice dr f.dat.s.len dc))=W1:=⟨_,rfl⟩
 have a1:=(Below.refl _ w).alloc (Nat.le_refl w.heap.size) (Z9 f (.slice nr f.names.length nc) (.slice kr f.kids.len kc) (.slice dr f.dat.s.len dc))
 have q0:=World.alloc_heap_new w (Z9 f (.slice nr f.names.length nc) (.slice kr f.kids.len kc) (.slice dr f.dat.s.len dc))
 rw [hW1] at a1 q0
 have HB1:Hid (Below w.heap.size w W1):=a1
 have HR1:Hid (RFo W1 f nr kr dr):=hR.below a1
 have HE1:Hid (Env W1):=hE.below a1
 have HF:Hid (FOk f):=hF
 obtain ⟨⟨z0,z1,z2,z3,z4,z5,z6,z7,z8⟩,_⟩:=cells9 q0
 clear a1 q0 hR hE
 have HN:Hid (namedB f=if f.kind=2 then nameB f.text else if f.kind=5∨f.kind=6 then varB f.text else f.names.all varB):=rfl
 by_cases h2:f.kind=2
 ·have H:Hid (namedB f=nameB f.text):=by show _=_;rw [HN.out,if_pos h2]
  have b2:(f.kind == 2)=true:=by simp [h2]
  clear h2 HN
  go_enter Tryz.func154,Tryz.ntmps154
  go_upto_region 1 with fail
  clear hW1
  go_wp2_with fail
  refine (isName_any f.text W1 HF.out.t HE1.out).mono ?_
  rintro e w2 ⟨rfl,hb2⟩
  have HB2:Hid (Below w.heap.size w w2):=HB1.out.trans (hb2.mono HB1.out.size)
  clear hb2
  go_wp2
  go_ret
  exact ⟨by rw [H.out];rfl,HB2.out⟩
 have b2:(f.kind == 2)=false:=by simp [h2]
 by_cases h5:f.kind=5
 ·have H:Hid (namedB f=varB f.text):=by show _=_;rw [HN.out,if_neg h2,if_pos (.inl h5)]
  have b5:(f.kind == 5)=true:=by simp [h5]
  clear h2 h5 HN
  go_enter Tryz.func154,Tryz.ntmps154
  go_upto_region 1 with fail
  clear hW1
  go_wp2_with fail
  refine (isVar_any f.text W1 HF.out.t HE1.out).mono ?_
  rintro e w2 ⟨rfl,hb2⟩
  have HB2:Hid (Below w.heap.size w w2):=HB1.out.trans (hb2.mono HB1.out.size)
  clear hb2
  go_wp2
  go_ret
  exact ⟨by rw [H.out];rfl,HB2.out⟩
 have b5:(f.kind == 5)=false:=by simp [h5]
 by_cases h6:f.kind=6
 ·have H:Hid (namedB f=varB f.text):=by show _=_;rw [HN.out,if_neg h2,if_pos (.inr h6)]
  have b6:(f.kind == 6)=true:=by simp [h6]
  clear h2 h5 h6 HN
  go_enter Tryz.func154,Tryz.ntmps154
  go_upto_region 1 with fail
  clear hW1
  go_wp2_with fail
  refine (isVar_any f.text W1 HF.out.t HE1.out).mono ?_
  rintro e w2 ⟨rfl,hb2⟩
  have HB2:Hid (Below w.heap.size w w2):=HB1.out.trans (hb2.mono HB1.out.size)
  clear hb2
  go_wp2
  go_ret
  exact ⟨by rw [H.out];rfl,HB2.out⟩
 have b6:(f.kind == 6)=false:=by simp [h6]
 have H:Hid (namedB f=f.names.all varB):=by show _=_;rw [HN.out,if_neg h2,if_neg (fun h=>h.elim h5 h6)]
 have HC:Hid (Calls Tryz.prog 176 #[.slice nr f.names.length nc,nvF] W1 fun e w' => e = .returned (.bool (!f.names.all varB))∧Below W1.heap.size W1 w'):=contains_any f.names nr nc W1 HR1.out.n HF.out.nl HF.out.ns HE1.out
 clear h2 h5 h6 HN
 ·go_enter Tryz.func154,Tryz.ntmps154
  go_upto_region 1 with fail
  clear hW1
  go_wp2_with fail
  refine (HC.out).mono ?_
  rintro e w2 ⟨rfl,hb2⟩
  have HB2:Hid (Below w.heap.size w w2):=HB1.out.trans (hb2.mono HB1.out.size)
  clear hb2
  go_wp2
  go_ret
  exact ⟨by rw [H.out];simp,HB2.out⟩
theorem datFit_of (f:Frm) (nr kr dr:Option Addr) (nc kc dc:Nat) (w:World) (hF:FOk f) (hR:RFo w f nr kr dr) (hE:Env w) :
  Calls Tryz.prog 174 #[frmV f (.slice nr f.names.length nc) (.slice kr f.kids.len kc) (.slice dr f.dat.s.len dc)] w fun e w' => e = .returned (.bool (datFitB f))∧Below w.heap.size w w' := by
 obtain ⟨W1,hW1⟩:∃W1,w.alloc (Z9 f (.slice nr f.names.length nc) (.slice kr f.kids.len kc) (.slice dr f.dat.s.len dc))=W1:=⟨_,rfl⟩
 have a1:=(Below.refl _ w).alloc (Nat.le_refl w.heap.size) (Z9 f (.slice nr f.names.length nc) (.slice kr f.kids.len kc) (.slice dr f.dat.s.len dc))
 have q0:=World.alloc_heap_new w (Z9 f (.slice nr f.names.length nc) (.slice kr f.kids.len kc) (.slice dr f.dat.s.len dc))
 rw [hW1] at a1 q0
 have HB1:Hid (Below w.heap.size w W1):=a1
 have HR1:Hid (RFo W1 f nr kr dr):=hR.below a1
 have HE1:Hid (Env W1):=hE.below a1
 have HF:Hid (FOk f):=hF
 obtain ⟨⟨z0,z1,z2,z3,z4,z5,z6,z7,z8⟩,_⟩:=cells9 q0
 clear a1 q0 hR hE
 have HN:Hid (datFitB f=if f.kind=1 then canB f.dat else sameB f.dat.k f.dat.n f.dat.t f.dat.s f.dat.d 0 0 [] .nil false):=rfl
 by_cases h2:f.kind=1
 ·have H:Hid (datFitB f=canB f.dat):=by show _=_;rw [HN.out,if_pos h2]
  have b2:(f.kind == 1)=true:=by simp [h2]
  clear h2 HN
  go_enter Tryz.func174,Tryz.ntmps174
  go_upto_region 1 with fail
  clear hW1
  go_wp2_with fail
  refine (can_any f.dat dr dc W1 HF.out.d HR1.out.d HE1.out).mono ?_
  rintro e w2 ⟨rfl,hb2⟩
  have HB2:Hid (Below w.heap.size w w2):=HB1.out.trans (hb2.mono HB1.out.size)
  clear hb2
  go_wp2
  go_ret
  exact ⟨by rw [H.out];rfl,HB2.out⟩
 have b2:(f.kind == 1)=false:=by simp [h2]
 have H:Hid (datFitB f=sameB f.dat.k f.dat.n f.dat.t f.dat.s f.dat.d 0 0 [] .nil false):=by show _=_;rw [HN.out,if_neg h2]
 have hdl:=hF.d.len
 clear h2 HN
 ·go_enter Tryz.func174,Tryz.ntmps174
  go_upto_region 1 with fail
  clear hW1
  go_wp2_with fail
  refine (same_any f.dat.k f.dat.n f.dat.t f.dat.s f.dat.d dr dc 0 0 [] .nil false none 0 W1 (by unfold maxLen;omega) (by unfold maxLen;simp [Fo.len]) HR1.out.d (frs_nil _ _)).mono ?_
  rintro e w2 ⟨rfl,hb2⟩
  have HB2:Hid (Below w.heap.size w w2):=HB1.out.trans (hb2.mono HB1.out.size)
  clear hb2
  go_wp2
  go_ret
  exact ⟨by rw [H.out];rfl,HB2.out⟩
theorem callFit_of (f:Frm) (nr kr dr:Option Addr) (nc kc dc:Nat) (w:World) (hF:FOk f) (hR:RFo w f nr kr dr) (hE:Env w) (hO:f.kids.oks) (hk1:f.kind=10→f.kids.len≠0) :
  Calls Tryz.prog 175 #[frmV f (.slice nr f.names.length nc) (.slice kr f.kids.len kc) (.slice dr f.dat.s.len dc)] w fun e w' => e = .returned (.bool (callFitB f))∧Below w.heap.size w w' := by
 obtain ⟨W1,hW1⟩:∃W1,w.alloc (Z9 f (.slice nr f.names.length nc) (.slice kr f.kids.len kc) (.slice dr f.dat.s.len dc))=W1:=⟨_,rfl⟩
 have a1:=(Below.refl _ w).alloc (Nat.le_refl w.heap.size) (Z9 f (.slice nr f.names.length nc) (.slice kr f.kids.len kc) (.slice dr f.dat.s.len dc))
 have q0:=World.alloc_heap_new w (Z9 f (.slice nr f.names.length nc) (.slice kr f.kids.len kc) (.slice dr f.dat.s.len dc))
 rw [hW1] at a1 q0
 have HB1:Hid (Below w.heap.size w W1):=a1
 have HR1:Hid (RFo W1 f nr kr dr):=hR.below a1
 have HE1:Hid (Env W1):=hE.below a1
 have HF:Hid (FOk f):=hF
 obtain ⟨⟨z0,z1,z2,z3,z4,z5,z6,z7,z8⟩,_⟩:=cells9 q0
 clear a1 q0 hR hE
 have HN:Hid (callFitB f=if f.kind=10∧f.kids.hd.kind=2 then argsB f.kids.hd.text (f.kids.len-1) else true):=rfl
 by_cases h2:f.kind=10
 ·have b2:(f.kind != 10)=false:=by simp [h2]
  have hlen:=hF.kl
  have hne:=hk1 h2
  obtain ⟨b,o,hz,hRd⟩:=HR1.out.k
  have hkr:=hz.resolve_left hne
  subst hkr
  obtain ⟨k0,t0,ns0,ks0,dk0,dn0,dt0,ds0,dd0,r0,hks⟩:∃k0 t0 ns0 ks0 dk0 dn0 dt0 ds0 dd0 r0,f.kids = .cons k0 t0 ns0 ks0 dk0 dn0 dt0 ds0 dd0 r0:=by
   cases hks:f.kids with
   | nil=>rw [hks] at hne;exact absurd rfl hne
   | cons k0 t0 ns0 ks0 dk0 dn0 dt0 ds0 dd0 r0=>exact ⟨_,_,_,_,_,_,_,_,_,_,rfl⟩
  have hhd:f.kids.hd=⟨k0,t0,ns0,ks0,⟨dk0,dn0,dt0,ds0,dd0⟩⟩:=by rw [hks];rfl
  rw [hks] at hRd hO
  have HO:Hid (FOk ⟨k0,t0,ns0,ks0,⟨dk0,dn0,dt0,ds0,dd0⟩⟩):=hO.1
  obtain ⟨⟨e0,e1,_,_,_,_⟩,_,_⟩:=hRd
  have HN2:Hid (callFitB f=if k0=2 then argsB t0 (f.kids.len-1) else true):=by show _=_;rw [HN.out,hhd];simp [h2]
  have hsl:(0:Int)<(f.kids.len:Int):=by omega
  have hsl2:0<f.kids.len:=by omega
  have hwr:IntKind.i64.wrap ((f.kids.len:Int)-1)=(f.kids.len:Int)-1:=wrapI (by omega) (by omega)
  clear hks hhd hz hne h2 HN hO hF hk1
  have hmx:Tryz.prog.follows .mixedOrders=true:=by kernel_rfl
  by_cases h3:k0=2
  ·have b3:(k0 != 2)=false:=by simp [h3]
   obtain ⟨ab,hab⟩:∃ab,argsB t0 ((f.kids.len:Int)-1)=ab:=⟨_,rfl⟩
   have H:Hid (callFitB f=ab):=by show _=_;rw [HN2.out,if_pos h3,hab]
   clear h3 HN2
   go_enter Tryz.func175,Tryz.ntmps175
   go_upto_region 1 with fail
   clear hW1
   have HC2:Hid (Calls Tryz.prog 172 #[S t0, .int .i64 ((f.kids.len:Int)-1)] W1.drew fun e w' => e = .returned (.bool ab)∧Below W1.heap.size W1.drew w'):=by rw [←hab];exact args_any t0 _ _ HO.out.t (HE1.out.below (Below.refl _ _).drew)
   have mk:∀wx,Below W1.heap.size W1.drew wx→wx.cell? ⟨w.heap.size,3,none⟩=some (.slice (some ⟨b,o,none⟩) f.kids.len kc)∧wx.cell? ⟨b,o+1,none⟩=some (S t0):=fun wx hb=>keep2 (W:=W1.drew) hb ⟨z3,e1⟩
   clear hab
   go_wp2_with fail
   go_region_held3 (fun wx=>wx.cell? ⟨w.heap.size,3,none⟩=some (.slice (some ⟨b,o,none⟩) f.kids.len kc)∧wx.cell? ⟨b,o+1,none⟩=some (S t0)) (first|(go_keep;done)|exact mk _ hb1)
    (first|(go_at_call 172;refine HC2.out.mono ?_;rintro e w1 ⟨rfl,hb1⟩))
   have HB2:Hid (Below w.heap.size w w1):=HB1.out.trans (((Below.refl _ W1).drew.trans hb1).mono HB1.out.size)
   clear hb1 mk
   go_wp2
   go_ret
   exact ⟨by rw [H.out];rfl,HB2.out⟩
  ·have b3:(k0 != 2)=true:=by simp [h3]
   have H:Hid (callFitB f=true):=by show _=_;rw [HN2.out,if_neg h3]
   clear h3 HN2
   go_enter Tryz.func175,Tryz.ntmps175
   go_upto_region 1 with fail
   clear hW1
   go_wp2
   go_ret
   exact ⟨by rw [H.out];rfl,HB1.out⟩
 ·have b2:(f.kind != 10)=true:=by simp [h2]
  have H:Hid (callFitB f=true):=by show _=_;rw [HN.out,if_neg (fun h=>h2 h.1)]
  clear h2 HN hk1 hO
  go_enter Tryz.func175,Tryz.ntmps175
  go_upto_region 1 with fail
  clear hW1
  go_wp2
  go_ret
  exact ⟨by rw [H.out];rfl,HB1.out⟩
end Go.Proofs.YtkgnigloboajcaaGreatDoor
