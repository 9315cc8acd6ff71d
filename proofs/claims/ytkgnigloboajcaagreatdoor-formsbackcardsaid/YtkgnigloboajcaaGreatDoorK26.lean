/- form.; What a parse is given up with: caught.; Of's deferred function, of a fault. -/
import Derived.Test.YtkgnigloboajcaaGreatDoorK09
import Derived.Test.YtkgnigloboajcaaGreatDoorK25
set_option maxRecDepth 100000
set_option maxHeartbeats 8000000
namespace Go.Proofs.YtkgnigloboajcaaGreatDoor
open Go.RowKit Go.Maps Go.ChangeMaps
theorem form_of {K:Nat} (hF:FormC K):FormC (K+1):=by
 intro W w B pb mb ps x rk ck hC hl hX hdp hR
 have HH:Hid (Hd W w ((w.alloc (boxD x (.slice rk x.s.len ck))).alloc F9) B pb mb ps x (.slice rk x.s.len ck)):=Hd.new hC x _
 have HZ:Hid (((w.alloc (boxD x (.slice rk x.s.len ck))).alloc F9).heap.size=w.heap.size+2):=by show _=_;simp
 have HX:Hid (DOk x):=hX
 by_cases hk:x.k=5
 ·have HM:Hid (formM (K+1) (!ps.isEmpty) x=listM (formM K true) (!ps.isEmpty) x):=by show _=_;unfold formM;rw [if_pos hk]
  have e5:(x.k == 5)=true:=by simp [hk]
  have hca:=list_all hF W B pb mb ps x rk ck ((w.alloc (boxD x (.slice rk x.s.len ck))).alloc F9) HH.out.c (by omega) hX (by omega) hR
  unfold RowC at hca
  rw [HM.out]
  clear hC hX hR hdp hk
  go_enter Tryz.func52,Tryz.ntmps52
  go_upto_region 1 with fail
  generalize (w.alloc (boxD x (.slice rk x.s.len ck))).alloc F9=W2 at *
  obtain ⟨c0,c1,c2,c3,c4,_⟩:=cells5 HH.out.q0
  cases hx:listM (formM K true) (!ps.isEmpty) x with
  | bad er p =>
   rw [hx] at hca
   have HNW:Hid (listM (formM K true) (!ps.isEmpty) x = .bad er p):=hx
   clear hx
   go_wp2_with fail
   refine hca.mono ?_
   rintro e w2 ⟨v', rfl,h1,h2⟩
   go_wp2_with fail
   refine ⟨rfl,?_⟩
   rw [HNW.out]
   exact GaveUp.elder ⟨v', rfl,h1,h2⟩ HH.out.k
  | ok f =>
   rw [hx] at hca
   have HNW:Hid (listM (formM K true) (!ps.isEmpty) x = .ok f):=hx
   clear hx
   go_wp2_with fail
   refine hca.mono ?_
   rintro e w5 ⟨⟨nv,kv,dv,nbs,rfl,hone⟩,hp5,hk5⟩
   obtain ⟨b1,g1,b2,g2,b3,g3,rfl,rfl,rfl⟩:=hone.slices
   have HH5:Hid (Hd W w w5 B pb mb ps x (.slice rk x.s.len ck)):=HH.out.step hp5 hk5
   have Hone:Hid (FOne w5 (w.heap.size+2) f (.slice b1 f.names.length g1) (.slice b2 f.kids.len g2) (.slice b3 f.dat.s.len g3) nbs):=hone.mono (Nat.le_of_eq HZ.out.symm)
   obtain ⟨⟨z0,z1,z2,z3,z4,z5,z6,z7,z8⟩,zf⟩:=cells9 HH5.out.q1
   have f0:=zf 0
   have f1:=zf 1
   have f2:=zf 2
   have f3:=zf 3
   have f4:=zf 4
   have f5:=zf 5
   have f6:=zf 6
   have f7:=zf 7
   have f8:=zf 8
   clear hp5 hk5 zf c0 c1 c2 c3 c4 hone hca
   go_wp2_with fail
   refine bodyPost_nine (s:=4) rfl rfl rfl HH5.out.q1 fun W9 h9=>?_
   rw [HNW.out]
   exact row_end HH5.out Hone.out h9
 have e5:(x.k == 5)=false:=by simp [hk]
 by_cases hk2:x.k=2
 ·have e2:(x.k == 2)=true:=by simp [hk2]
  have HM:Hid (formM (K+1) (!ps.isEmpty) x=if nameB x.t then .ok { frm0 with kind:=2,text:=x.t } else .bad 71 []):=by show _=_;unfold formM;rw [if_neg hk,if_pos hk2]
  rw [HM.out]
  cases hnb:nameB x.t with
  | false =>
   rw [if_neg (by decide)]
   have HNm:Hid (∀w', Env w' → Calls Tryz.prog 108 #[S x.t] w' fun e w2=>e = .returned (.bool false)∧Below w'.heap.size w' w2):=fun w' hE=>by rw [←hnb];exact isName_any x.t w' HX.out.t hE
   clear hC hX hR hdp hk hk2 hnb
   go_enter Tryz.func52,Tryz.ntmps52
   go_upto_region 1 with fail
   generalize (w.alloc (boxD x (.slice rk x.s.len ck))).alloc F9=W2 at *
   obtain ⟨c0,c1,c2,c3,c4,_⟩:=cells5 HH.out.q0
   go_wp2_with fail
   refine (HNm.out _ HH.out.c.envw).mono ?_
   rintro e w1 ⟨rfl,hb1⟩
   have HH1:Hid (Hd W w w1 B pb mb ps x (.slice rk x.s.len ck)):=HH.out.step (HH.out.c.px.same hb1) (KP.of hb1)
   clear hb1 c0 c1 c2 c3 c4
   obtain ⟨c0,c1,c2,c3,c4,_⟩:=cells5 HH1.out.q0
   go_wp2_with fail
   refine (giveUp_any B pb mb ps 71 w1 HH1.out.c.px (by omega)).mono ?_
   rintro e w2 ⟨v', rfl,h1,h2⟩
   go_wp2_with fail
   exact ⟨rfl,(GaveUp.elder ⟨v', rfl,h1,h2⟩ HH1.out.k).cast (by simp)⟩
  | true =>
   rw [if_pos rfl]
   have HNm:Hid (∀w', Env w' → Calls Tryz.prog 108 #[S x.t] w' fun e w2=>e = .returned (.bool true)∧Below w'.heap.size w' w2):=fun w' hE=>by rw [←hnb];exact isName_any x.t w' HX.out.t hE
   clear hC hX hR hdp hk hk2 hnb
   go_enter Tryz.func52,Tryz.ntmps52
   go_upto_region 1 with fail
   generalize (w.alloc (boxD x (.slice rk x.s.len ck))).alloc F9=W2 at *
   obtain ⟨c0,c1,c2,c3,c4,_⟩:=cells5 HH.out.q0
   go_wp2_with fail
   refine (HNm.out _ HH.out.c.envw).mono ?_
   rintro e w1 ⟨rfl,hb1⟩
   have HH1:Hid (Hd W w w1 B pb mb ps x (.slice rk x.s.len ck)):=HH.out.step (HH.out.c.px.same hb1) (KP.of hb1)
   clear hb1 c0 c1 c2 c3 c4
   obtain ⟨c0,c1,c2,c3,c4,_⟩:=cells5 HH1.out.q0
   obtain ⟨⟨z0,z1,z2,z3,z4,z5,z6,z7,z8⟩,zf⟩:=cells9 HH1.out.q1
   have f0:=zf 0
   have f1:=zf 1
   have f2:=zf 2
   have f3:=zf 3
   have f4:=zf 4
   have f5:=zf 5
   have f6:=zf 6
   have f7:=zf 7
   have f8:=zf 8
   clear zf
   go_wp2_with fail
   refine bodyPost_nine (s:=4) rfl rfl rfl HH1.out.q1 fun W9 h9=>?_
   obtain ⟨bs,ho⟩:=one_d (w:=w1) (base:=w.heap.size+2) (f:={ frm0 with kind:=2,text:=x.t }) rfl rfl (Tree.nil _ _)
   exact row_end (f:={ frm0 with kind:=2,text:=x.t }) HH1.out ho h9
 ·have e2:(x.k == 2)=false:=by simp [hk2]
  have HM:Hid (formM (K+1) (!ps.isEmpty) x = .ok { frm0 with kind:=1,dat:=x }):=by show _=_;unfold formM;rw [if_neg hk,if_neg hk2]
  have HR2:Hid (RS ((w.alloc (boxD x (.slice rk x.s.len ck))).alloc F9) rk x.s):=hR.below HH.out.c.hW
  rw [HM.out]
  clear hC hX hR hdp hk hk2
  go_enter Tryz.func52,Tryz.ntmps52
  go_upto_region 1 with fail
  generalize (w.alloc (boxD x (.slice rk x.s.len ck))).alloc F9=W2 at *
  obtain ⟨c0,c1,c2,c3,c4,_⟩:=cells5 HH.out.q0
  go_wp2_with fail
  refine (copy_any x rk ck W2 HX.out.size HR2.out).mono ?_
  rintro e w5 ⟨v,rfl,hT,hb5⟩
  obtain ⟨ra,ca,rfl⟩:=hT.slice
  have HH5:Hid (Hd W w w5 B pb mb ps x (.slice rk x.s.len ck)):=HH.out.step (HH.out.c.px.same hb5) (KP.of hb5)
  have HT:Hid (Tree w5 (w.heap.size+2) (.slice ra x.s.len ca) x.s):=by have:=hT;rw [HZ.out] at this;exact this
  obtain ⟨⟨z0,z1,z2,z3,z4,z5,z6,z7,z8⟩,zf⟩:=cells9 HH5.out.q1
  have f0:=zf 0
  have f1:=zf 1
  have f2:=zf 2
  have f3:=zf 3
  have f4:=zf 4
  have f5:=zf 5
  have f6:=zf 6
  have f7:=zf 7
  have f8:=zf 8
  clear hT hb5 zf c0 c1 c2 c3 c4
  go_wp2_with fail
  refine bodyPost_nine (s:=4) rfl rfl rfl HH5.out.q1 fun W9 h9=>?_
  obtain ⟨bs,ho⟩:=one_d (w:=w5) (base:=w.heap.size+2) (f:={ frm0 with kind:=1,dat:=x }) rfl rfl HT.out
  exact row_end (f:={ frm0 with kind:=1,dat:=x }) HH5.out ho h9
theorem form_any:∀K,FormC K
 | 0=>fun W w B pb mb ps x rk ck _ _ _ hdp _=>absurd hdp (by omega)
 | K+1=>form_of (form_any K)
open Go.RowKit
theorem assertF_fault (e:Int) (ra:Option Addr) (n cap:Nat) (W:World):(Instr.typeAssert (.iface 100 (.agg #[.int .i64 e, .slice ra n cap])) 20 100 true).run Tryz.prog W = .ok (.tuple #[.agg #[.int .i64 e, .slice ra n cap], .bool true]) W:=by kernel_rfl
theorem assertF_nil (W:World):(Instr.typeAssert .nilIface 20 100 true).run Tryz.prog W = .ok (.tuple #[.agg #[.int .i64 0, .slice none 0 0], .bool false]) W:=by kernel_rfl
theorem caughtF_fault (e:Int) (ra:Option Addr) (n cap:Nat) (w:World):Calls Tryz.prog 50 #[.iface 100 (.agg #[.int .i64 e, .slice ra n cap])] w fun r w' => r = .returned (.tuple #[.agg #[.int .i64 e, .slice ra n cap], .bool true])∧Below w.heap.size w w' := by
 have h1:=assertF_fault e ra n cap
 go_enter Tryz.func50,Tryz.ntmps50
 go_wp2
 refine bodyPost_ret (v := .tuple #[.agg #[.int .i64 e, .slice ra n cap], .bool true]) (by simp [results,Tryz.results50,go_sem]) rfl ⟨rfl,?_⟩
 exact ((Below.refl _ _).alloc (Nat.le_refl _) _).alloc (by simp) _
theorem caughtF_nil (w:World):Calls Tryz.prog 50 #[.nilIface] w fun r w' => r = .returned (.tuple #[.agg #[.int .i64 0, .slice none 0 0], .bool false])∧Below w.heap.size w w' := by
 have h1:=assertF_nil
 have h2:∀W:World,(binOp .neq 20 .nilIface .nilIface).run Tryz.prog W = .ok (.bool false) W:=fun W=>by kernel_rfl
 go_enter Tryz.func50,Tryz.ntmps50
 go_wp2
 refine bodyPost_ret (v := .tuple #[.agg #[.int .i64 0, .slice none 0 0], .bool false]) (by simp [results,Tryz.results50,go_sem]) rfl ⟨rfl,?_⟩
 exact ((Below.refl _ _).alloc (Nat.le_refl _) _).alloc (by simp) _
theorem catchF_idle (b0 b1 b2:Nat) (w:World) :
  CallsD Tryz.prog 49 #[.pointer (some ⟨b0,0,none⟩), .pointer (some ⟨b1,0,none⟩), .pointer (some ⟨b2,0,none⟩)] .returning w fun r u' w' => (∃v,r = .returned v)∧u' = .returning∧Below w.heap.size w w' := by
 refine callsD_of_wpS Tryz.func49 rfl fun c₀ cs hu=>?_
 simp only [Tryz.ntmps49,List.size_toArray,List.length_cons,List.length_nil,Nat.reduceAdd,Nat.reduceSub,Array.replicate_succ,Array.replicate_zero,List.push_toArray,List.append_toArray,List.nil_append,List.cons_append]
 apply wpS_seq
 apply wpS_region
 show wpOpsS _ _ _ [0,1,2,3,4,5,6,7] _ _ _
 refine wpOpsS_none rfl rfl rfl (by simp [recoverD,hu]) ?_
 refine wpOpsS_cons rfl rfl ?_
 simp [go_sem]
 refine (caughtF_nil w).mono ?_
 rintro e w1 ⟨rfl,hb1⟩
 simp only
 iterate 6 (refine wpOpsS_cons rfl rfl ?_;simp [go_sem])
 unfold wpOpsS
 simp only [Exit.thenS]
 refine wpS_of_wp ?_
 go_wp2
 refine ⟨rfl, .returning,by cases c₀;simp_all, .tuple #[],by simp [results,Tryz.results49,go_sem],⟨_,rfl⟩,rfl,hb1.alloc hb1.size _⟩
abbrev cs9:Array Value := #[.int .u8 0, .string ⟨#[]⟩, .slice none 0 0, .slice none 0 0, .int .u8 0, .int .i64 0, .string ⟨#[]⟩, .slice none 0 0, .bool false]
theorem But3.nine {b0 b1 b2:Nat} {w w1 w' : World} (h:But3 b0 b1 b2 w w1) (k:Nine w1 w' b0):But3 b0 b1 b2 w w' :=
 h.trans ⟨k.os,k.tape,k.output,Nat.le_of_eq k.size.symm,fun g _ n0 _ _=>k.other g n0⟩
theorem boxed_nine {b b0:Nat} {t:TypeId} {v:Value} {w w' : World} (h:Boxed w b t v) (k:Nine w w' b0) (hn:b≠b0):Boxed w' b t v:=(k.other _ hn).trans h
theorem catchF_fault (b0 b1 b2:Nat) (e:Int) (ra:Option Addr) (n cap:Nat) (v0 v1 v2 v3 v4 v5 v6 v7 v8 u1 u2:Value) (w:World) (h0:w.heap[b0]?=some (.cells #[v0,v1,v2,v3,v4,v5,v6,v7,v8] 36 (0,0))) (h1:Boxed w b1 37 u1) (h2:Boxed w b2 38 u2) (n01:b0≠b1) (n02:b0≠b2) (n12:b1≠b2) :
  CallsD Tryz.prog 49 #[.pointer (some ⟨b0,0,none⟩), .pointer (some ⟨b1,0,none⟩), .pointer (some ⟨b2,0,none⟩)] (.panicking (faultF e (.slice ra n cap))) w fun r u' w' =>
   ((∃v,r = .returned v)∧∃v,u' = .panicking [{ v,recovered:=true }])∧But3 b0 b1 b2 w w' ∧ w'.heap[b0]?=some (.cells cs9 36 (0,0))∧Boxed w' b1 37 (.int .i64 e)∧Boxed w' b2 38 (.slice ra n cap):=by
 refine callsD_of_wpS Tryz.func49 rfl fun c₀ cs hu=>?_
 simp only [Tryz.ntmps49,List.size_toArray,List.length_cons,List.length_nil,Nat.reduceAdd,Nat.reduceSub,Array.replicate_succ,Array.replicate_zero,List.push_toArray,List.append_toArray,List.nil_append,List.cons_append]
 apply wpS_seq
 apply wpS_region
 show wpOpsS _ _ _ [0,1,2,3,4,5,6,7] _ _ _
 refine wpOpsS_some (v := .iface 100 (.agg #[.int .i64 e, .slice ra n cap])) (cs' := { c₀ with mode := .panicking [{ v := .iface 100 (.agg #[.int .i64 e, .slice ra n cap]),recovered:=true }] }::cs) rfl rfl rfl (by simp [recoverD,hu,faultF]) ?_
 refine wpOpsS_cons rfl rfl ?_
 simp [go_sem]
 refine (caughtF_fault e ra n cap w).mono ?_
 rintro r w1 ⟨rfl,hb1⟩
 simp only
 iterate 6 (refine wpOpsS_cons rfl rfl ?_;simp [go_sem])
 unfold wpOpsS
 simp only [Exit.thenS]
 refine wpS_of_wp ?_
 have l0:=(Array.getElem?_eq_some_iff.1 h0).1
 have l1:=h1.lt
 have l2:=h2.lt
 have g0:w1.heap[b0]?=some (.cells #[v0,v1,v2,v3,v4,v5,v6,v7,v8] 36 (0,0)):=(hb1.block _ l0).trans h0
 have g1:Boxed w1 b1 37 u1:=(hb1.block _ l1).trans h1
 have g2:Boxed w1 b2 38 u2:=(hb1.block _ l2).trans h2
 have m0:=(Array.getElem?_eq_some_iff.1 g0).1
 have m1:=g1.lt
 have m2:=g2.lt
 obtain ⟨⟨z0,z1,z2,z3,z4,z5,z6,z7,z8⟩,zf⟩:=cells9 g0
 have y0:=zf 0
 have y1:=zf 1
 have y2:=zf 2
 have y3:=zf 3
 have y4:=zf 4
 have y5:=zf 5
 have y6:=zf 6
 have y7:=zf 7
 have y8:=zf 8
 have c1:=g1.cell
 have c2:=g2.cell
 have f1:=g1.frozen
 have f2:=g2.frozen
 have Hb1:Hid (Below w.heap.size w w1):=hb1
 have G0:Hid (w1.heap[b0]?=some (.cells #[v0,v1,v2,v3,v4,v5,v6,v7,v8] 36 (0,0))):=g0
 have G1:Hid (Boxed w1 b1 37 u1):=g1
 have G2:Hid (Boxed w1 b2 38 u2):=g2
 have x0:¬ w1.heap.size=b0:=by omega
 have x1:¬ w1.heap.size=b1:=by omega
 have x2:¬ w1.heap.size=b2:=by omega
 clear g0 g1 g2 h0 h1 h2 hb1 zf
 go_wp2_with fail
 go_region
 all_goals go_wp2
 have k9:=nine_nine b0 w1 (.int .u8 0) (.string ⟨#[]⟩) (.slice none 0 0) (.slice none 0 0) (.int .u8 0) (.int .i64 0) (.string ⟨#[]⟩) (.slice none 0 0) (.bool false)
 have a9:=nine_at G0.out (.int .u8 0) (.string ⟨#[]⟩) (.slice none 0 0) (.slice none 0 0) (.int .u8 0) (.int .i64 0) (.string ⟨#[]⟩) (.slice none 0 0) (.bool false)
 unfold nine at k9 a9
 generalize (World.setCell (World.setCell (World.setCell (World.setCell (World.setCell (World.setCell (World.setCell (World.setCell (World.setCell w1 ⟨b0,0,none⟩ (.int .u8 0)) ⟨b0,1,none⟩ (.string ⟨#[]⟩)) ⟨b0,2,none⟩ (.slice none 0 0)) ⟨b0,3,none⟩ (.slice none 0 0)) ⟨b0,4,none⟩ (.int .u8 0)) ⟨b0,5,none⟩ (.int .i64 0)) ⟨b0,6,none⟩ (.string ⟨#[]⟩)) ⟨b0,7,none⟩ (.slice none 0 0)) ⟨b0,8,none⟩ (.bool false))=W9 at k9 a9 ⊢
 have s9:=k9.size
 refine ⟨rfl, .panicking [{ v := .iface 100 (.agg #[.int .i64 e, .slice ra n cap]),recovered:=true }],rfl, .tuple #[],by simp [results,Tryz.results49,go_sem],⟨⟨_,rfl⟩,_,rfl⟩,?_,?_,?_,?_⟩
 ·exact (((((But3.of_below Hb1.out).nine k9).set (.inr (.inl rfl)) _).set (.inr (.inr rfl)) _).alloc _).drew
 ·exact (Below.heap_alloc _ _ _ (by simp [World.setCell];omega)).trans ((Below.heap_setCell _ _ _ _ n02).trans ((Below.heap_setCell _ _ _ _ n01).trans a9))
 ·exact (((boxed_nine G1.out k9 n01.symm).set (.int .i64 e)).other n12 _).alloc _
 ·exact (((boxed_nine G2.out k9 n02.symm).other n12.symm _).set (.slice ra n cap)).alloc _
end Go.Proofs.YtkgnigloboajcaaGreatDoor
