/- isDatum: its walk.; extent.add: how many, how deep.; check: what cannot be written is given up. -/
import Derived.Test.YtkgnigloboajcaaGreatDoorK11
import Derived.Shelf.RegionOpenPlain
set_option maxRecDepth 100000
set_option maxHeartbeats 4000000
namespace Go.Proofs.YtkgnigloboajcaaGreatDoor
open Go.RowKit
theorem isDatum_any (k n:Int) (t:List UInt8) (s:Fo) (d:Bool) (rk:Option Addr) (ck:Nat) (w:World) (hm:s.len≤maxLen) (hR:RS w rk s) (ht:t.length≤281474976710656) (hE:EV w) :
  Calls Tryz.prog 159 #[.agg #[.int .u8 k, .int .i64 n,S t, .slice rk s.len ck, .bool d]] w fun e w' => e = .returned (.bool (isDat k n t s d))∧Below w.heap.size w w' := by
 have HR:Hid (RS w rk s):=hR
 have HE:Hid (EV w):=hE
 have hal:Below w.heap.size w (w.alloc (.cells #[.int .u8 k, .int .i64 n,S t, .slice rk s.len ck, .bool d] 32)):=(Below.refl _ w).alloc (Nat.le_refl _) _
 have Hal:Hid _:=hal
 have q0:=World.alloc_heap_new w (.cells #[.int .u8 k, .int .i64 n,S t, .slice rk s.len ck, .bool d] 32)
 have HQ0:Hid _:=q0
 clear hR hE hal q0
 unfold isDat
 by_cases h1:k=1
 ·rw [if_pos h1]
  subst h1
  cases hsb:sameB 1 n t s d 1 n [] .nil false
  ·have HS:Hid _:=hsb
   clear hsb
   go_enter Tryz.func159,Tryz.ntmps159
   go_wp2_with fail
   refine (same_any 1 n t s d rk ck 1 n [] .nil false none 0 _ hm (by simp [Fo.len]) (HR.out.below Hal.out) (rs_nil _ _)).mono ?_
   rintro e w1 ⟨rfl,hb1⟩
   rw [HS.out]
   go_wp2
   go_ret
   exact ⟨rfl,Hal.out.trans (hb1.mono (by simp))⟩
  ·have HS:Hid _:=hsb
   clear hsb
   cases hlo:decide (-576460752303423488≤n)
   ·go_enter Tryz.func159,Tryz.ntmps159
    go_wp2_with fail
    refine (same_any 1 n t s d rk ck 1 n [] .nil false none 0 _ hm (by simp [Fo.len]) (HR.out.below Hal.out) (rs_nil _ _)).mono ?_
    rintro e w1 ⟨rfl,hb1⟩
    obtain ⟨z0,z1,z2,z3,z4,_⟩:=cells5 ((hb1.block _ (by simp)).trans HQ0.out)
    rw [HS.out]
    go_wp2
    go_ret
    exact ⟨rfl,Hal.out.trans (hb1.mono (by simp))⟩
   ·go_enter Tryz.func159,Tryz.ntmps159
    go_wp2_with fail
    refine (same_any 1 n t s d rk ck 1 n [] .nil false none 0 _ hm (by simp [Fo.len]) (HR.out.below Hal.out) (rs_nil _ _)).mono ?_
    rintro e w1 ⟨rfl,hb1⟩
    obtain ⟨z0,z1,z2,z3,z4,_⟩:=cells5 ((hb1.block _ (by simp)).trans HQ0.out)
    rw [HS.out]
    go_wp2
    go_ret
    exact ⟨by simp,Hal.out.trans (hb1.mono (by simp))⟩
 rw [if_neg h1]
 have b1:(k == 1)=false:=beq_eq_false_iff_ne.2 h1
 by_cases h2:k=2
 ·rw [if_pos h2]
  subst h2
  clear h1 b1
  cases hsb:sameB 2 n t s d 2 0 t .nil false
  ·exact isDatum_sym_f n t s d rk ck w hm HR.out ht HE.out hsb
  ·exact isDatum_sym_t n t s d rk ck w hm HR.out ht HE.out hsb
 rw [if_neg h2]
 have b2:(k == 2)=false:=beq_eq_false_iff_ne.2 h2
 by_cases h34:k=3∨k=4
 ·rw [if_pos h34]
  rcases h34 with rfl|rfl
  ·clear h1 h2 b1 b2
   go_enter Tryz.func159,Tryz.ntmps159
   go_wp2_with fail
   refine (same_any 3 n t s d rk ck 3 0 [] .nil false none 0 _ hm (by simp [Fo.len]) (HR.out.below Hal.out) (rs_nil _ _)).mono ?_
   rintro e w1 ⟨rfl,hb1⟩
   go_wp2
   go_ret
   exact ⟨rfl,Hal.out.trans (hb1.mono (by simp))⟩
  ·clear h1 h2 b1 b2
   go_enter Tryz.func159,Tryz.ntmps159
   go_wp2_with fail
   refine (same_any 4 n t s d rk ck 4 0 [] .nil false none 0 _ hm (by simp [Fo.len]) (HR.out.below Hal.out) (rs_nil _ _)).mono ?_
   rintro e w1 ⟨rfl,hb1⟩
   go_wp2
   go_ret
   exact ⟨rfl,Hal.out.trans (hb1.mono (by simp))⟩
 rw [if_neg h34]
 have b3:(k == 3)=false:=beq_eq_false_iff_ne.2 (fun h=>h34 (.inl h))
 have b4:(k == 4)=false:=beq_eq_false_iff_ne.2 (fun h=>h34 (.inr h))
 by_cases h5:k=5
 ·rw [if_pos h5]
  subst h5
  clear h1 h2 h34 b1 b2 b3 b4
  cases hn:(n == 0)
  ·go_enter Tryz.func159,Tryz.ntmps159
   go_wp2
   go_ret
   exact ⟨rfl,Hal.out⟩
  ·by_cases htn:t=[]
   ·subst htn
    cases d
    ·go_enter Tryz.func159,Tryz.ntmps159
     go_wp2
     go_ret
     exact ⟨by simp,Hal.out⟩
    ·go_enter Tryz.func159,Tryz.ntmps159
     go_wp2_with fail
     refine (hasTail_any rk ck s _ hm (HR.out.below Hal.out)).mono ?_
     rintro e w1 ⟨rfl,rfl⟩
     go_wp2
     go_ret
     exact ⟨by simp,Hal.out⟩
   ·have d3:decide (t=[])=false:=decide_eq_false htn
    go_enter Tryz.func159,Tryz.ntmps159
    go_wp2
    go_ret
    exact ⟨by simp [htn],Hal.out⟩
 rw [if_neg h5]
 have b5:(k == 5)=false:=beq_eq_false_iff_ne.2 h5
 clear h1 h2 h34 h5
 go_enter Tryz.func159,Tryz.ntmps159
 go_wp2
 go_ret
 exact ⟨rfl,Hal.out⟩
def ext:Fo→Nat→Nat × Nat→Option (Nat × Nat)
 | .nil,_,x=>some x
 | .cons k n t s d r,L,x=>if isDat k n t s d then (ext s (if k=5 then L+1 else L) (x.1+1,if k=5 then max x.2 (L+1) else x.2)).bind (ext r L) else none
def Fo.tx:Fo→Prop
 | .nil=>True
 | .cons _ _ t s _ r=>t.length≤281474976710656∧s.tx∧r.tx
theorem ext_bound:∀(f:Fo) (L c p:Nat) {c' p' : Nat},ext f L (c,p)=some (c', p')→c' = c+f.size∧p≤p' ∧ p' ≤ max p (L+f.size)
 | .nil,L,c,p,c', p', h=>by
  simp only [ext,Option.some.injEq,Prod.mk.injEq] at h
  obtain ⟨rfl,rfl⟩:=h
  simp [Fo.size];omega
 | .cons k n t s d r,L,c,p,c', p', h=>by
  simp only [ext] at h
  split at h
  ·rw [Option.bind_eq_some_iff] at h
   obtain ⟨⟨c1,p1⟩,h1,h2⟩:=h
   have e1:=ext_bound s _ _ _ h1
   have e2:=ext_bound r _ _ _ h2
   simp only [Fo.size]
   split at e1<;>omega
  ·cases h
theorem ext_cons (k n:Int) (t:List UInt8) (s:Fo) (d:Bool) (r:Fo) (L:Nat) (x:Nat × Nat):ext (.cons k n t s d r) L x=(ext (.cons k n t s d .nil) L x).bind (ext r L):=by
 simp only [ext]
 split
 ·cases ext s _ _<;>rfl
 ·rfl
structure Xb (W:World) (xb c p:Nat):Prop where
 heap:W.heap[xb]?=some (.cells #[.int .i64 c, .int .i64 p] 201 (0,0))
theorem Xb.lt {W:World} {xb c p:Nat} (h:Xb W xb c p):xb<W.heap.size:=(Array.getElem?_eq_some_iff.1 h.heap).1
theorem Xb.c0 {W:World} {xb c p:Nat} (h:Xb W xb c p):W.cell? ⟨xb,0,none⟩=some (.int .i64 c):=by simp [World.cell?,h.heap]
theorem Xb.c1 {W:World} {xb c p:Nat} (h:Xb W xb c p):W.cell? ⟨xb,1,none⟩=some (.int .i64 p):=by simp [World.cell?,h.heap]
theorem Xb.fr {W:World} {xb c p:Nat} (h:Xb W xb c p) (k:Nat):W.frozen? ⟨xb,k,none⟩=false:=by simp [World.frozen?,h.heap]
theorem Xb.kept {W W' : World} {xb c p:Nat} (h:Xb W xb c p) (hb:W'.heap[xb]?=W.heap[xb]?):Xb W' xb c p:=⟨hb.trans h.heap⟩
theorem Xb.set0 {W:World} {xb c p:Nat} (h:Xb W xb c p) (j:Nat):Xb (W.setCell ⟨xb,0,none⟩ (.int .i64 j)) xb j p:=⟨set_at h.heap _⟩
theorem Xb.set1 {W:World} {xb c p:Nat} (h:Xb W xb c p) (j:Nat):Xb (W.setCell ⟨xb,1,none⟩ (.int .i64 j)) xb c j:=⟨set_at h.heap _⟩
def PostX (xb:Nat) (w:World):Option (Nat × Nat)→Ending→World→Prop
 | some (c,p),e,w' => (∃v,e = .returned v)∧Xb w' xb c p∧But xb w w'
 | none,e,w' => e = .panicked (fault 60 0)∧But xb w w'
def AddC (N:Nat):Prop:=∀(k n:Int) (t:List UInt8) (s:Fo) (d:Bool) (rk:Option Addr) (ck L c p xb:Nat) (W w:World),s.size≤N→s.len≤maxLen→t.length≤281474976710656→s.tx→RS W rk s→EV W→Below W.heap.size W w→W.heap.size≤xb→Xb w xb c p →
 c+s.size+1≤1152921504606846976→L+s.size+1≤1152921504606846976→p≤1152921504606846976 →
 Calls Tryz.prog 130 #[.pointer (some ⟨xb,0,none⟩), .agg #[.int .u8 k, .int .i64 n,S t, .slice rk s.len ck, .bool d], .int .i64 L] w (PostX xb w (ext (.cons k n t s d .nil) L (c,p)))
theorem add_of {N:Nat} (h:∀M,M<N→AddC M):AddC N:=by
 intro k n t s d rk ck L c p xb W w hN hm ht htx hR hE hW hx hX hc hL hp
 have HR:Hid (RS W rk s):=hR
 have HE:Hid (EV W):=hE
 have HW:Hid (Below W.heap.size W w):=hW
 have HX:Hid (Xb w xb c p):=hX
 have HT:Hid (s.tx):=htx
 have Ht:Hid _:=ht
 have HC:Hid (∀M,M<N→AddC M):=h
 have hal:Below w.heap.size w (w.alloc (.cells #[.int .u8 k, .int .i64 n,S t, .slice rk s.len ck, .bool d] 32)):=(Below.refl _ w).alloc (Nat.le_refl _) _
 have Hal:Hid _:=hal
 have q0:=World.alloc_heap_new w (.cells #[.int .u8 k, .int .i64 n,S t, .slice rk s.len ck, .bool d] 32)
 have HQ0:Hid _:=q0
 clear hR hE hW hX htx ht h hal q0
 have hE' : ext (.cons k n t s d .nil) L (c,p)=if isDat k n t s d then ext s (if k=5 then L+1 else L) (c+1,if k=5 then max p (L+1) else p) else none:=by
  simp only [ext]
  split
  ·cases ext s _ _<;>rfl
  ·rfl
 rw [hE']
 clear hE'
 cases hd:isDat k n t s d
 ·have HD:Hid _:=hd
  clear hd
  go_enter Tryz.func130,Tryz.ntmps130
  go_wp2_with fail
  refine (isDatum_any k n t s d rk ck _ hm ((HR.out.below HW.out).below Hal.out) Ht.out ((HE.out.below HW.out HE.out.lt).below Hal.out (Nat.lt_of_lt_of_le HE.out.lt HW.out.size))).mono ?_
  rintro e w1 ⟨rfl,hb1⟩
  rw [HD.out]
  go_wp2
  exact ⟨rfl,rfl,(But.of_below Hal.out).trans (But.of_below hb1)⟩
 ·have HD:Hid _:=hd
  clear hd
  by_cases h5:k=5
  ·subst h5
   rw [if_pos rfl,if_pos rfl,if_pos rfl]
   go_enter Tryz.func130,Tryz.ntmps130
   go_wp2_with fail
   refine (isDatum_any 5 n t s d rk ck _ hm ((HR.out.below HW.out).below Hal.out) Ht.out ((HE.out.below HW.out HE.out.lt).below Hal.out (Nat.lt_of_lt_of_le HE.out.lt HW.out.size))).mono ?_
   rintro e w1 ⟨rfl,hb1⟩
   rw [HD.out]
   obtain ⟨z0,z1,z2,z3,z4,_⟩:=cells5 ((hb1.block _ (by simp)).trans HQ0.out)
   have HX1:Hid (Xb w1 xb c p):=(HX.out.kept (Hal.out.block _ HX.out.lt)).kept (hb1.block _ (Nat.lt_of_lt_of_le HX.out.lt Hal.out.size))
   have x0:=HX1.out.c0
   have x1:=HX1.out.c1
   have f0:=HX1.out.fr 0
   have f1:=HX1.out.fr 1
   have hlt:=HX.out.lt
   have hne:xb≠w.heap.size:=by omega
   have hne' : w.heap.size≠xb:=by omega
   have HB1:Hid (But xb w w1):=(But.of_below Hal.out).trans (But.of_below hb1)
   clear hb1
   go_wp2
   obtain ⟨b,o,hab,hRd⟩:=HR.out
   have HRd:Hid (Rd W b o s):=hRd
   have Hra:Hid (s.len≠0→rk=some ⟨b,o,none⟩):=fun h=>hab.resolve_left h
   clear hRd hab z0 z1 z2 z3 z4 x0 x1 f0 f1
   go_loopw [37] (fun i wr=>∃(j cj pj:Nat) (fi:Fo),i = .int .i64 j∧fi.len+j=s.len∧fi.size≤s.size∧cj+fi.size≤1152921504606846976∧pj≤1152921504606846976∧Hid fi.tx∧Hid (Rd W b (o+j*5) fi)∧Hid (Xb wr xb cj pj)∧Hid (But xb w wr)∧Hid (ext s (L+1) (c+1,(max p (L+1)))=ext fi (L+1) (cj,pj))) (fun i _=>s.len-(intOf i).toNat)
   case atStart=>exact ⟨0,c+1,(max p (L+1)),s,rfl,by simp,Nat.le_refl _,by omega,by omega,HT,by simpa using HRd,(HX1.out.set0 (c+1)).set1 (max p (L+1)) |> fun h=>by rw [show ((c+1:Nat):Int)=(c:Int)+1 by omega,show ((max p (L+1):Nat):Int)=max (p:Int) ((L:Int)+1) by omega] at h;exact h,(HB1.out.set _).set _,rfl⟩
   case round =>
    obtain ⟨j,cj,pj,fi,rfl,hj,hsz,hcj,hpj,HFt,HF,HXj,HBj,HQ⟩:=hrel
    cases fi with
    | nil =>
     have hj' : j=s.len:=by simpa [Fo.len] using hj
     have HJ:Hid _:=hj'
     have hjl:¬ ((j:Int)<(s.len:Int)):=by omega
     clear hj hj'
     go_wp2
     go_end0
     rw [HQ.out]
     exact ⟨⟨_,rfl⟩,HXj.out,HBj.out⟩
    | cons k' n' t' s' d' r' =>
     have HWr:Hid (Below W.heap.size W wr):=HW.out.trans (HBj.out.below hx HW.out.size)
     obtain ⟨⟨g0,g1,g2,g3,g4,g5⟩,⟨rk', ck', bk', ok', gk,gz,gs⟩,gr⟩:=HF.out
     have ec:∀o,wr.cell? ⟨b,o,none⟩=W.cell? ⟨b,o,none⟩:=fun o=>HWr.out.cell (p:=⟨b,o,none⟩) g0
     have h1:=(ec _).trans g1
     have h2:=(ec _).trans g2
     have h3:=(ec _).trans g3
     have h4:=(ec _).trans g4
     have hk:=(ec _).trans gk
     have h0:b<wr.heap.size:=Nat.lt_of_lt_of_le g0 HWr.out.size
     have hxr:=HXj.out.lt
     simp only [Fo.len] at hj
     simp only [Fo.size] at hsz hcj
     obtain ⟨ft1,ft2,ft3⟩:=HFt.out
     have Hft1:Hid _:=ft1
     have Hft2:Hid _:=ft2
     have Hft3:Hid _:=ft3
     have HRk:Hid (RS W rk' s'):=⟨bk', ok', gz,gs⟩
     have Hr:Hid _:=gr
     have hjs:j<s.len:=by omega
     have hra:=Hra.out (by omega)
     subst hra
     have i1:(j:Int)<(s.len:Int):=by omega
     have hmm:=hm
     unfold maxLen at hmm
     clear ft1 ft2 ft3 gz gs gr g1 g2 g3 g4 gk ec HFt
     go_wp2_with fail
     have HA:Hid (Below wr.heap.size wr (wr.alloc (.cells #[.int .u8 k', .int .i64 n', S t', .slice rk' s'.len ck', .bool d'] 32))):=(Below.refl _ wr).alloc (Nat.le_refl _) _
     have hcall:=HC.out s'.size (by omega) k' n' t' s' d' rk' ck' (L+1) cj pj xb W (wr.alloc (.cells #[.int .u8 k', .int .i64 n', S t', .slice rk' s'.len ck', .bool d'] 32)) (Nat.le_refl _) g5 Hft1.out Hft2.out HRk.out HE.out (HWr.out.trans (HA.out.mono HWr.out.size)) hx (HXj.out.kept (HA.out.block _ HXj.out.lt)) (by omega) (by omega) hpj
     rw [show ((L+1:Nat):Int)=(L:Int)+1 by omega] at hcall
     refine hcall.mono ?_
     intro e w2 hP
     clear hcall h1 h2 h3 h4 hk
     cases hk2:ext (.cons k' n' t' s' d' .nil) (L+1) (cj,pj) with
     | none =>
      rw [hk2] at hP
      obtain ⟨rfl,hB2⟩:=hP
      have HK2:Hid _:=hk2
      have HB2:Hid (But xb w w2):=(HBj.out.trans (But.of_below HA.out)).trans hB2
      clear hk2 hB2
      go_wp2
      refine ⟨rfl,?_⟩
      rw [HQ.out,ext_cons,HK2.out]
      exact ⟨rfl,HB2.out⟩
     | some x =>
      obtain ⟨c1,p1⟩:=x
      rw [hk2] at hP
      obtain ⟨⟨v,rfl⟩,hX2,hB2⟩:=hP
      have hbd:=ext_bound _ _ _ _ hk2
      simp only [Fo.size] at hbd
      have HK2:Hid _:=hk2
      have HX2:Hid _:=hX2
      have HB2:Hid (But xb w w2):=(HBj.out.trans (But.of_below HA.out)).trans hB2
      clear hk2 hB2 hX2
      go_wp2
      go_roundw
      case rel=>exact ⟨j+1,c1,p1,r', by go_num,by omega,by omega,by omega,by omega,Hft3,by rw [show o+(j+1)*5=o+j*5+5 by omega];exact Hr,HX2,HB2,by show _=_;rw [HQ.out,ext_cons,HK2.out];rfl⟩
      case measure=>simp [intOf];omega
  ·have b5:(k == 5)=false:=beq_eq_false_iff_ne.2 h5
   rw [if_pos rfl,if_neg h5,if_neg h5]
   go_enter Tryz.func130,Tryz.ntmps130
   go_wp2_with fail
   refine (isDatum_any k n t s d rk ck _ hm ((HR.out.below HW.out).below Hal.out) Ht.out ((HE.out.below HW.out HE.out.lt).below Hal.out (Nat.lt_of_lt_of_le HE.out.lt HW.out.size))).mono ?_
   rintro e w1 ⟨rfl,hb1⟩
   rw [HD.out]
   obtain ⟨z0,z1,z2,z3,z4,_⟩:=cells5 ((hb1.block _ (by simp)).trans HQ0.out)
   have HX1:Hid (Xb w1 xb c p):=(HX.out.kept (Hal.out.block _ HX.out.lt)).kept (hb1.block _ (Nat.lt_of_lt_of_le HX.out.lt Hal.out.size))
   have x0:=HX1.out.c0
   have x1:=HX1.out.c1
   have f0:=HX1.out.fr 0
   have f1:=HX1.out.fr 1
   have hlt:=HX.out.lt
   have hne:xb≠w.heap.size:=by omega
   have hne' : w.heap.size≠xb:=by omega
   have HB1:Hid (But xb w w1):=(But.of_below Hal.out).trans (But.of_below hb1)
   clear hb1
   go_wp2
   obtain ⟨b,o,hab,hRd⟩:=HR.out
   have HRd:Hid (Rd W b o s):=hRd
   have Hra:Hid (s.len≠0→rk=some ⟨b,o,none⟩):=fun h=>hab.resolve_left h
   clear hRd hab z0 z1 z2 z3 z4 x0 x1 f0 f1
   go_loopw [37] (fun i wr=>∃(j cj pj:Nat) (fi:Fo),i = .int .i64 j∧fi.len+j=s.len∧fi.size≤s.size∧cj+fi.size≤1152921504606846976∧pj≤1152921504606846976∧Hid fi.tx∧Hid (Rd W b (o+j*5) fi)∧Hid (Xb wr xb cj pj)∧Hid (But xb w wr)∧Hid (ext s L (c+1,p)=ext fi L (cj,pj))) (fun i _=>s.len-(intOf i).toNat)
   case atStart=>exact ⟨0,c+1,p,s,rfl,by simp,Nat.le_refl _,by omega,by omega,HT,by simpa using HRd,(HX1.out.set0 (c+1)) |> fun h=>by rw [show ((c+1:Nat):Int)=(c:Int)+1 by omega] at h;exact h,HB1.out.set _,rfl⟩
   case round =>
    obtain ⟨j,cj,pj,fi,rfl,hj,hsz,hcj,hpj,HFt,HF,HXj,HBj,HQ⟩:=hrel
    cases fi with
    | nil =>
     have hj' : j=s.len:=by simpa [Fo.len] using hj
     have HJ:Hid _:=hj'
     have hjl:¬ ((j:Int)<(s.len:Int)):=by omega
     clear hj hj'
     go_wp2
     go_end0
     rw [HQ.out]
     exact ⟨⟨_,rfl⟩,HXj.out,HBj.out⟩
    | cons k' n' t' s' d' r' =>
     have HWr:Hid (Below W.heap.size W wr):=HW.out.trans (HBj.out.below hx HW.out.size)
     obtain ⟨⟨g0,g1,g2,g3,g4,g5⟩,⟨rk', ck', bk', ok', gk,gz,gs⟩,gr⟩:=HF.out
     have ec:∀o,wr.cell? ⟨b,o,none⟩=W.cell? ⟨b,o,none⟩:=fun o=>HWr.out.cell (p:=⟨b,o,none⟩) g0
     have h1:=(ec _).trans g1
     have h2:=(ec _).trans g2
     have h3:=(ec _).trans g3
     have h4:=(ec _).trans g4
     have hk:=(ec _).trans gk
     have h0:b<wr.heap.size:=Nat.lt_of_lt_of_le g0 HWr.out.size
     have hxr:=HXj.out.lt
     simp only [Fo.len] at hj
     simp only [Fo.size] at hsz hcj
     obtain ⟨ft1,ft2,ft3⟩:=HFt.out
     have Hft1:Hid _:=ft1
     have Hft2:Hid _:=ft2
     have Hft3:Hid _:=ft3
     have HRk:Hid (RS W rk' s'):=⟨bk', ok', gz,gs⟩
     have Hr:Hid _:=gr
     have hjs:j<s.len:=by omega
     have hra:=Hra.out (by omega)
     subst hra
     have i1:(j:Int)<(s.len:Int):=by omega
     have hmm:=hm
     unfold maxLen at hmm
     clear ft1 ft2 ft3 gz gs gr g1 g2 g3 g4 gk ec HFt
     go_wp2_with fail
     have HA:Hid (Below wr.heap.size wr (wr.alloc (.cells #[.int .u8 k', .int .i64 n', S t', .slice rk' s'.len ck', .bool d'] 32))):=(Below.refl _ wr).alloc (Nat.le_refl _) _
     have hcall:=HC.out s'.size (by omega) k' n' t' s' d' rk' ck' L cj pj xb W (wr.alloc (.cells #[.int .u8 k', .int .i64 n', S t', .slice rk' s'.len ck', .bool d'] 32)) (Nat.le_refl _) g5 Hft1.out Hft2.out HRk.out HE.out (HWr.out.trans (HA.out.mono HWr.out.size)) hx (HXj.out.kept (HA.out.block _ HXj.out.lt)) (by omega) (by omega) hpj
     refine hcall.mono ?_
     intro e w2 hP
     clear hcall h1 h2 h3 h4 hk
     cases hk2:ext (.cons k' n' t' s' d' .nil) L (cj,pj) with
     | none =>
      rw [hk2] at hP
      obtain ⟨rfl,hB2⟩:=hP
      have HK2:Hid _:=hk2
      have HB2:Hid (But xb w w2):=(HBj.out.trans (But.of_below HA.out)).trans hB2
      clear hk2 hB2
      go_wp2
      refine ⟨rfl,?_⟩
      rw [HQ.out,ext_cons,HK2.out]
      exact ⟨rfl,HB2.out⟩
     | some x =>
      obtain ⟨c1,p1⟩:=x
      rw [hk2] at hP
      obtain ⟨⟨v,rfl⟩,hX2,hB2⟩:=hP
      have hbd:=ext_bound _ _ _ _ hk2
      simp only [Fo.size] at hbd
      have HK2:Hid _:=hk2
      have HX2:Hid _:=hX2
      have HB2:Hid (But xb w w2):=(HBj.out.trans (But.of_below HA.out)).trans hB2
      clear hk2 hB2 hX2
      go_wp2
      go_roundw
      case rel=>exact ⟨j+1,c1,p1,r', by go_num,by omega,by omega,by omega,by omega,Hft3,by rw [show o+(j+1)*5=o+j*5+5 by omega];exact Hr,HX2,HB2,by show _=_;rw [HQ.out,ext_cons,HK2.out];rfl⟩
      case measure=>simp [intOf];omega
theorem add_all:∀N,AddC N:=fun N=>by
 induction N using Nat.strongRecOn with
 | _ N ih=>exact add_of ih
def chk (f:Fo):Int :=
 match ext f 0 (0,0) with
 | none=>60
 | some (c,p)=>if 100<p then 61 else if 10000<c then 62 else 0
theorem check_any (ra:Option Addr) (ca:Nat) (f:Fo) (w:World) (hm:f.len≤maxLen) (hs:f.size+1≤1152921504606846976) (ht:f.tx) (hR:RS w ra f) (hE:EV w) :
  Calls Tryz.prog 93 #[.slice ra f.len ca] w fun e w' => ((chk f=0∧∃v,e = .returned v)∨(chk f≠0∧e = .panicked (fault (chk f) 0)))∧Below w.heap.size w w' := by
 obtain ⟨b,o,hab,hRd⟩:=hR
 have HRd:Hid (Rd w b o f):=hRd
 have Hra:Hid (f.len≠0→ra=some ⟨b,o,none⟩):=fun h=>hab.resolve_left h
 have HE:Hid (EV w):=hE
 have HT:Hid (f.tx):=ht
 clear hRd hab hE ht
 have hmm:=hm
 unfold maxLen at hmm
 go_enter Tryz.func93,Tryz.ntmps93
 go_wp2
 have HX0:Hid (Xb (w.alloc (.cells #[.int .i64 0, .int .i64 0] 201)) w.heap.size 0 0):=⟨World.alloc_heap_new w _⟩
 have HB0:Hid (Below w.heap.size w (w.alloc (.cells #[.int .i64 0, .int .i64 0] 201))):=(Below.refl _ w).alloc (Nat.le_refl _) _
 go_loopw [7] (fun i wr=>∃(j cj pj:Nat) (fi:Fo),i = .int .i64 j∧fi.len+j=f.len∧fi.size≤f.size∧cj+fi.size≤1152921504606846976∧pj≤1152921504606846976∧Hid fi.tx∧Hid (Rd w b (o+j*5) fi)∧Hid (Xb wr w.heap.size cj pj)∧Hid (Below w.heap.size w wr)∧Hid (ext f 0 (0,0)=ext fi 0 (cj,pj))) (fun i _=>f.len-(intOf i).toNat)
 case atStart=>exact ⟨0,0,0,f,rfl,by simp,Nat.le_refl _,by omega,by omega,HT,by simpa using HRd,HX0,HB0,rfl⟩
 case round =>
  obtain ⟨j,cj,pj,fi,rfl,hj,hsz,hcj,hpj,HFt,HF,HXj,HBj,HQ⟩:=hrel
  cases fi with
  | nil =>
   have hj' : j=f.len:=by simpa [Fo.len] using hj
   have HJ:Hid _:=hj'
   have hjl:¬ ((j:Int)<(f.len:Int)):=by omega
   have HK:Hid (chk f=if 100<pj then 61 else if 10000<cj then 62 else 0):=by
    show chk f=_
    unfold chk
    rw [HQ.out]
    rfl
   have x0:=HXj.out.c0
   have x1:=HXj.out.c1
   clear hj hj'
   by_cases hp:100<pj
   ·have hp' : (100:Int)<(pj:Int):=by omega
    go_wp2
    refine ⟨rfl, .inr ?_,HBj.out⟩
    rw [HK.out,if_pos hp]
    exact ⟨by decide,rfl⟩
   ·have hp' : ¬ (100:Int)<(pj:Int):=by omega
    by_cases hc:10000<cj
    ·have hc' : (10000:Int)<(cj:Int):=by omega
     go_wp2
     refine ⟨rfl, .inr ?_,HBj.out⟩
     rw [HK.out,if_neg hp,if_pos hc]
     exact ⟨by decide,rfl⟩
    ·have hc' : ¬ (10000:Int)<(cj:Int):=by omega
     go_wp2
     go_end0
     refine ⟨.inl ?_,HBj.out⟩
     rw [HK.out,if_neg hp,if_neg hc]
     exact ⟨rfl,_,rfl⟩
  | cons k' n' t' s' d' r' =>
   obtain ⟨⟨g0,g1,g2,g3,g4,g5⟩,⟨rk', ck', bk', ok', gk,gz,gs⟩,gr⟩:=HF.out
   have ec:∀o,wr.cell? ⟨b,o,none⟩=w.cell? ⟨b,o,none⟩:=fun o=>HBj.out.cell (p:=⟨b,o,none⟩) g0
   have h1:=(ec _).trans g1
   have h2:=(ec _).trans g2
   have h3:=(ec _).trans g3
   have h4:=(ec _).trans g4
   have hk:=(ec _).trans gk
   have h0:b<wr.heap.size:=Nat.lt_of_lt_of_le g0 HBj.out.size
   have hxr:=HXj.out.lt
   simp only [Fo.len] at hj
   simp only [Fo.size] at hsz hcj
   obtain ⟨ft1,ft2,ft3⟩:=HFt.out
   have Hft1:Hid _:=ft1
   have Hft2:Hid _:=ft2
   have Hft3:Hid _:=ft3
   have HRk:Hid (RS w rk' s'):=⟨bk', ok', gz,gs⟩
   have Hr:Hid _:=gr
   have hjs:j<f.len:=by omega
   have hra:=Hra.out (by omega)
   subst hra
   have i1:(j:Int)<(f.len:Int):=by omega
   clear ft1 ft2 ft3 gz gs gr g1 g2 g3 g4 gk ec HFt
   go_wp2_with fail
   have HA:Hid (Below wr.heap.size wr (wr.alloc (.cells #[.int .u8 k', .int .i64 n', S t', .slice rk' s'.len ck', .bool d'] 32))):=(Below.refl _ wr).alloc (Nat.le_refl _) _
   have hcall:=add_all s'.size k' n' t' s' d' rk' ck' 0 cj pj w.heap.size w (wr.alloc (.cells #[.int .u8 k', .int .i64 n', S t', .slice rk' s'.len ck', .bool d'] 32)) (Nat.le_refl _) g5 Hft1.out Hft2.out HRk.out HE.out (HBj.out.trans (HA.out.mono HBj.out.size)) (Nat.le_refl _) (HXj.out.kept (HA.out.block _ HXj.out.lt)) (by omega) (by omega) hpj
   refine hcall.mono ?_
   intro e w2 hP
   clear hcall h1 h2 h3 h4 hk
   cases hk2:ext (.cons k' n' t' s' d' .nil) 0 (cj,pj) with
   | none =>
    rw [hk2] at hP
    obtain ⟨rfl,hB2⟩:=hP
    have HK:Hid (chk f=60):=by
     show chk f=_
     unfold chk
     rw [HQ.out,ext_cons,hk2]
     rfl
    have HB2:Hid (Below w.heap.size w w2):=(HBj.out.trans (HA.out.mono HBj.out.size)).trans (hB2.below (Nat.le_refl _) (Nat.le_trans HBj.out.size HA.out.size))
    clear hk2 hB2
    go_wp2
    refine ⟨rfl, .inr ?_,HB2.out⟩
    rw [HK.out]
    exact ⟨by decide,rfl⟩
   | some x =>
    obtain ⟨c1,p1⟩:=x
    rw [hk2] at hP
    obtain ⟨⟨v,rfl⟩,hX2,hB2⟩:=hP
    have hbd:=ext_bound _ _ _ _ hk2
    simp only [Fo.size] at hbd
    have HK2:Hid _:=hk2
    have HX2:Hid _:=hX2
    have HB2:Hid (Below w.heap.size w w2):=(HBj.out.trans (HA.out.mono HBj.out.size)).trans (hB2.below (Nat.le_refl _) (Nat.le_trans HBj.out.size HA.out.size))
    clear hk2 hB2 hX2
    go_wp2
    go_roundw
    case rel=>exact ⟨j+1,c1,p1,r', by go_num,by omega,by omega,by omega,by omega,Hft3,by rw [show o+(j+1)*5=o+j*5+5 by omega];exact Hr,HX2,HB2,by show _=_;rw [HQ.out,ext_cons,HK2.out];rfl⟩
    case measure=>simp [intOf];omega
end Go.Proofs.YtkgnigloboajcaaGreatDoor
