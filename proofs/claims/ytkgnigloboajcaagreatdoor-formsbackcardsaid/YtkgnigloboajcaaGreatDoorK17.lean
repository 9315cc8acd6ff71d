/- textOf, Write.; Write.; Forms, and what form a datum is: plain mathematics, no program in it. -/
import Derived.Test.YtkgnigloboajcaaGreatDoorK10
import Derived.Test.YtkgnigloboajcaaGreatDoorK16
set_option maxRecDepth 100000
set_option maxHeartbeats 4000000
namespace Go.Proofs.YtkgnigloboajcaaGreatDoor
open Go.RowKit
def restT:Bool→List (List UInt8)→List UInt8
 | _,[]=>[]
 | b,x::r=>(if b then [] else [10])++(x++restT false r)
theorem restT_lines:∀(ts:List (List UInt8)),restT true ts=linesT ts
 | []=>rfl
 | [x]=>by simp [restT,linesT]
 | x::y::r=>by
  have:=restT_lines (y::r)
  simp only [restT,linesT,if_true,if_false,List.nil_append,Bool.false_eq_true] at this ⊢
  rw [←this];simp
theorem textOf_any (ra:Option Addr) (ca:Nat) (f:Fo) (w:World) (hm:f.len≤maxLen) (hs:f.size≤10000) (hD:allD f=true) (hR:RS w ra f) (hT:TB w) :
  Calls Tryz.prog 94 #[.slice ra f.len ca] w fun e w' => e = .returned (.string ⟨(linesT (textsT f)).toArray⟩)∧Below w.heap.size w w' := by
 have hll:(linesT (textsT f)).length≤400000:=Nat.le_trans (lines_len _) (Nat.le_trans (sum3_texts f hD) (by omega))
 obtain ⟨b0,o,hab,hRd⟩:=hR
 have HRd:Hid (Rd w b0 o f):=hRd
 have Hra:Hid (f.len≠0→ra=some ⟨b0,o,none⟩):=fun h=>hab.resolve_left h
 have HT:Hid (TB w):=hT
 have HD:Hid (allD f=true):=hD
 clear hRd hab hT hD
 have hmm:=hm
 unfold maxLen at hmm
 go_enter Tryz.func94,Tryz.ntmps94
 go_wp2
 have HB0:Hid (Below w.heap.size w (w.alloc (.cells #[.pointer none, .slice none 0 0] 205))):=(Below.refl _ w).alloc (Nat.le_refl _) _
 have HU0:Hid (Bu w.heap.size w.heap.size [] (w.alloc (.cells #[.pointer none, .slice none 0 0] 205))) := .inl ⟨Nat.le_refl _,_,World.alloc_heap_new w _,World.ownsRowF_of (World.ownsRow_nil _ _ _ _),by simp [Value.ownBlock]⟩
 have HK0:Hid (Kp w.heap.size w.heap.size w (w.alloc (.cells #[.pointer none, .slice none 0 0] 205))):=Kp.below HB0.out (Nat.le_refl _)
 go_loopw [8] (fun i wr=>∃(j:Nat) (fi:Fo) (m:List UInt8),i = .int .i64 j∧fi.len+j=f.len∧fi.size≤f.size∧Hid (allD fi=true)∧Hid (Rd w b0 (o+j*5) fi)∧Hid (Bu w.heap.size w.heap.size m wr)∧Hid (Kp w.heap.size w.heap.size w wr)∧Hid (m++restT (decide (j=0)) (textsT fi)=linesT (textsT f))) (fun i _=>f.len-(intOf i).toNat)
 case atStart=>exact ⟨0,f,[],rfl,by simp,Nat.le_refl _,HD,by simpa using HRd,HU0,HK0,by show _=_;rw [←restT_lines];rfl⟩
 case round =>
  obtain ⟨j,fi,m,rfl,hj,hsz,HDi,HF,HBj,HKj,HTj⟩:=hrel
  have hBr:w.heap.size≤wr.heap.size:=HKj.out.1.size
  have hbr:=HBj.out.le
  cases fi with
  | nil =>
   have hj' : j=f.len:=by simpa [Fo.len] using hj
   have HJ:Hid _:=hj'
   have hjl:¬ ((j:Int)<(f.len:Int)):=by omega
   clear hj hj'
   go_wp2_with fail
   refine (Tryz.Builder_String_any_k w.heap.size w.heap.size m _ HBj.out hBr).mono ?_
   rintro e w2 ⟨rfl,hB2,hb2,hK2⟩
   have e:=HTj.out
   simp only [textsT,restT,List.append_nil] at e
   have HK2:Hid (Below w.heap.size w w2):=HKj.out.1.trans hb2
   have HE:Hid _:=e
   clear hB2 hK2 hb2 e
   go_wp2
   go_ret
   rw [HE.out]
   exact ⟨rfl,HK2.out⟩
  | cons k' n' t' s' d' r' =>
   have HWr:Hid (Below w.heap.size w wr):=HKj.out.1
   obtain ⟨⟨g0,g1,g2,g3,g4,g5⟩,⟨rk', ck', bk', ok', gk,gz,gs⟩,gr⟩:=HF.out
   have ec:∀o,wr.cell? ⟨b0,o,none⟩=w.cell? ⟨b0,o,none⟩:=fun o=>HWr.out.cell (p:=⟨b0,o,none⟩) g0
   have h1:=(ec _).trans g1
   have h2:=(ec _).trans g2
   have h3:=(ec _).trans g3
   have h4:=(ec _).trans g4
   have hk:=(ec _).trans gk
   have h0:b0<wr.heap.size:=Nat.lt_of_lt_of_le g0 HWr.out.size
   simp only [Fo.len] at hj
   simp only [Fo.size] at hsz
   have hdi:=HDi.out
   simp only [allD,Bool.and_eq_true] at hdi
   have Hi1:Hid (isDat k' n' t' s' d' = true):=hdi.1
   have Hi2:Hid (allD s' = true):=hdi.2.1
   have Hi3:Hid (allD r' = true):=hdi.2.2
   have HRk:Hid (RS w rk' s'):=⟨bk', ok', gz,gs⟩
   have Hr:Hid _:=gr
   have hjs:j<f.len:=by omega
   have hra:=Hra.out (by omega)
   subst hra
   have i1:(j:Int)<(f.len:Int):=by omega
   have HA:Hid (Below wr.heap.size wr (wr.alloc (.cells #[.int .u8 k', .int .i64 n', S t', .slice rk' s'.len ck', .bool d'] 32))):=(Below.refl _ wr).alloc (Nat.le_refl _) _
   have HAq:Hid _:=World.alloc_heap_new wr (.cells #[.int .u8 k', .int .i64 n', S t', .slice rk' s'.len ck', .bool d'] 32)
   clear gz gs gr g1 g2 g3 g4 gk ec hdi HDi
   by_cases hj0:j=0
   ·have HE:Hid (m++(oneT k' n' t' s' d' (textsT s')++restT false (textsT r'))=linesT (textsT f)):=by
     have e:=HTj.out
     simp only [textsT,restT,hj0,decide_true,if_true,List.nil_append] at e
     exact e
    have hle:m.length+((oneT k' n' t' s' d' (textsT s')).length+(restT false (textsT r')).length)≤400000:=by
     have:=congrArg List.length HE.out
     simp only [List.length_append] at this
     omega
    have i2:¬ ((0:Int)<(j:Int)):=by omega
    clear hj0
    go_wp2_with fail
    have hcall:=write_all s'.size k' n' t' s' d' rk' ck' w.heap.size w.heap.size m w (wr.alloc (.cells #[.int .u8 k', .int .i64 n', S t', .slice rk' s'.len ck', .bool d'] 32)) (Nat.le_refl _) g5 Hi1.out Hi2.out HRk.out HT.out (HWr.out.trans (HA.out.mono hBr)) (Nat.le_refl _) (Nat.le_trans hBr HA.out.size) (HBj.out.kept HA.out) (by omega)
    refine hcall.mono ?_
    rintro e w4 ⟨⟨v,rfl⟩,hB4,hK4⟩
    have HB4:Hid _:=hB4
    have HK4:Hid (Kp w.heap.size w.heap.size w w4):=(HKj.out.trans (Kp.below HA.out hBr)).trans hK4
    clear hcall hB4 hK4 h1 h2 h3 h4 hk
    go_wp2
    go_roundw
    case rel=>exact ⟨j+1,r', _,by go_num,by omega,by omega,Hi3,by rw [show o+(j+1)*5=o+j*5+5 by omega];exact Hr,HB4,HK4,by show _=_;rw [←HE.out];simp⟩
    case measure=>simp [intOf];omega
   ·have HE:Hid (m++[10]++(oneT k' n' t' s' d' (textsT s')++restT false (textsT r'))=linesT (textsT f)):=by
     have e:=HTj.out
     simp only [textsT,restT,hj0,decide_false,if_false,Bool.false_eq_true] at e
     rw [List.append_assoc]
     exact e
    have hle:(m++[10]).length+((oneT k' n' t' s' d' (textsT s')).length+(restT false (textsT r')).length)≤400000:=by
     have:=congrArg List.length HE.out
     simp only [List.length_append] at this ⊢
     omega
    have hle1:(m++[10]).length=m.length+1:=by simp
    have i2:(0:Int)<(j:Int):=by omega
    clear hj0
    go_wp2_with fail
    refine (putB w.heap.size w.heap.size m 10 (by decide) _ (HBj.out.kept HA.out) (by omega) (Nat.le_trans hBr HA.out.size)).mono ?_
    rintro e w2 ⟨rfl,hB2,hK2⟩
    have HB2:Hid (Bu w.heap.size w.heap.size (m++[10]) w2):=hB2
    have HK2:Hid (Kp w.heap.size w.heap.size w w2):=(HKj.out.trans (Kp.below HA.out hBr)).trans hK2
    have q2:=hK2.at HAq.out (by omega)
    obtain ⟨y0,y1,y2,y3,y4,_⟩:=cells5 q2
    have l2:wr.heap.size<w2.heap.size:=(Array.getElem?_eq_some_iff.1 q2).1
    clear hB2 hK2 q2 h1 h2 h3 h4 hk
    go_wp2_with fail
    have hcall:=write_all s'.size k' n' t' s' d' rk' ck' w.heap.size w.heap.size (m++[10]) w w2 (Nat.le_refl _) g5 Hi1.out Hi2.out HRk.out HT.out HK2.out.1 (Nat.le_refl _) HK2.out.1.size HB2.out (by omega)
    refine hcall.mono ?_
    rintro e w4 ⟨⟨v,rfl⟩,hB4,hK4⟩
    have HB4:Hid _:=hB4
    have HK4:Hid (Kp w.heap.size w.heap.size w w4):=HK2.out.trans hK4
    clear hcall hB4 hK4 y0 y1 y2 y3 y4
    go_wp2
    go_roundw
    case rel=>exact ⟨j+1,r', _,by go_num,by omega,by omega,Hi3,by rw [show o+(j+1)*5=o+j*5+5 by omega];exact Hr,HB4,HK4,by show _=_;rw [←HE.out];simp⟩
    case measure=>simp [intOf];omega
def writeOf (f:Fo):List UInt8 × Int:=if chk f≠0 then ([],chk f) else if 65536<(linesT (textsT f)).length then ([],2) else (linesT (textsT f),0)
theorem results2 {fn:Func} {tmps:Array Value} {b0 b1:Nat} {v0 v1:Value} {W:World} (hres:fn.results = #[.cell 2 9, .cell 3 37]) (h2:tmps[2]?=some (.pointer (some ⟨b0,0,none⟩))) (h3:tmps[3]?=some (.pointer (some ⟨b1,0,none⟩)))
  (k0:Boxed W b0 9 v0) (k1:Boxed W b1 37 v1):(results fn tmps).run Tryz.prog W = .ok (.tuple #[v0,v1]) W:=by
 have c0:=k0.cell
 have c1:=k1.cell
 obtain ⟨l2,e2⟩:=Array.getElem?_eq_some_iff.1 h2
 obtain ⟨l3,e3⟩:=Array.getElem?_eq_some_iff.1 h3
 simp [results,hres,go_sem,c0,c1,l2,e2,l3,e3]
structure Two (w W:World) (b:Nat) (v0 v1:Value):Prop where
 k0:Boxed W b 9 v0
 k1:Boxed W (b+1) 37 v1
 below:Below b w W
theorem Two.set0 {w W:World} {b:Nat} {v0 v1:Value} (h:Two w W b v0 v1) (u:Value):Two w (W.setCell ⟨b,0,none⟩ u) b u v1:=⟨h.k0.set u,h.k1.other (by omega) u,h.below.setCell (p:=⟨b,0,none⟩) (Nat.le_refl _) u⟩
theorem Two.set1 {w W:World} {b:Nat} {v0 v1:Value} (h:Two w W b v0 v1) (u:Value):Two w (W.setCell ⟨b+1,0,none⟩ u) b v0 u:=⟨h.k0.other (by omega) u,h.k1.set u,h.below.setCell (p:=⟨b+1,0,none⟩) (by simp) u⟩
theorem write_fn (ra:Option Addr) (ca:Nat) (f:Fo) (w:World) (hm:f.len≤maxLen) (hs:f.size+1≤1152921504606846976) (ht:f.tx) (hR:RS w ra f) (hE:EV w) (hT:TB w) :
  Calls Tryz.prog 37 #[.slice ra f.len ca] w fun e w' => e = .returned (.tuple #[.string ⟨(writeOf f).1.toArray⟩, .int .i64 (writeOf f).2])∧Below w.heap.size w w' := by
 have HR:Hid (RS w ra f):=hR
 have HE:Hid (EV w):=hE
 have HT:Hid (TB w):=hT
 have Ht:Hid (f.tx):=ht
 have H0:Hid (Boxed ((w.alloc (.cells #[.string ⟨#[]⟩] 9)).alloc (.cells #[.int .i64 0] 37)) w.heap.size 9 (.string ⟨#[]⟩)):=(Boxed.new w _ _).alloc _
 have H1:Hid (Boxed ((w.alloc (.cells #[.string ⟨#[]⟩] 9)).alloc (.cells #[.int .i64 0] 37)) (w.heap.size+1) 37 (.int .i64 0)):=by
  have:=Boxed.new (w.alloc (.cells #[.string ⟨#[]⟩] 9)) 37 (.int .i64 0)
  rwa [World.size_alloc] at this
 have Hb:Hid (Below w.heap.size w ((w.alloc (.cells #[.string ⟨#[]⟩] 9)).alloc (.cells #[.int .i64 0] 37))):=((Below.refl _ w).alloc (Nat.le_refl _) _).alloc (by simp) _
 clear hR hE hT ht
 go_enter_defers Tryz.func37,Tryz.ntmps37
 go_wp2_with fail
 refine (check_any ra ca f _ hm hs Ht.out (HR.out.below Hb.out) (HE.out.below Hb.out HE.out.lt)).mono ?_
 rintro e w1 ⟨⟨hc,v,rfl⟩|⟨hc,rfl⟩,hb1⟩
 ·obtain ⟨hD,_,hsz⟩:=chk_zero.1 hc
  have HD:Hid _:=hD
  have HC:Hid (writeOf f=if 65536<(linesT (textsT f)).length then ([],2) else (linesT (textsT f),0)):=by show _=_;unfold writeOf;rw [if_neg (by simp [hc])]
  have T1:Hid (Two w w1 w.heap.size (.string ⟨#[]⟩) (.int .i64 0)):=⟨(hb1.block _ H0.out.lt).trans H0.out,(hb1.block _ H1.out.lt).trans H1.out,Hb.out.trans (hb1.mono Hb.out.size)⟩
  clear hD hc hb1 H0 H1 Hb
  go_wp2_with fail
  refine (textOf_any ra ca f w1 hm hsz HD.out (HR.out.below T1.out.below) (HT.out.below T1.out.below)).mono ?_
  rintro e w2 ⟨rfl,hb2⟩
  have T2:Hid (Two w w2 w.heap.size (.string ⟨#[]⟩) (.int .i64 0)):=⟨(hb2.block _ T1.out.k0.lt).trans T1.out.k0,(hb2.block _ T1.out.k1.lt).trans T1.out.k1,T1.out.below.trans (hb2.mono T1.out.below.size)⟩
  have hll:(linesT (textsT f)).length≤400000:=Nat.le_trans (lines_len _) (Nat.le_trans (sum3_texts f HD.out) (by omega))
  obtain ⟨X,hX⟩:∃X,linesT (textsT f)=X:=⟨_,rfl⟩
  rw [hX] at hll ⊢
  have HCX:Hid (writeOf f=if 65536<X.length then ([],2) else (X,0)):=by show _=_;rw [HC.out,hX]
  have c0:=T2.out.k0.cell
  have c1:=T2.out.k1.cell
  have f0:=T2.out.k0.frozen
  have f1:=T2.out.k1.frozen
  have l0:=T2.out.k0.lt
  have l1:=T2.out.k1.lt
  clear hb2 hX HC T1
  by_cases hlen:65536<X.length
  ·have hl' : (65536:Int)<(X.length:Int):=by omega
   go_wp2_with fail
   have T4:=((T2.out.set0 (.string ⟨X.toArray⟩)).set0 (.string ⟨#[]⟩)).set1 (.int .i64 2)
   obtain ⟨W4,hW4⟩:∃W4,((w2.setCell ⟨w.heap.size,0,none⟩ (.string ⟨X.toArray⟩)).setCell ⟨w.heap.size,0,none⟩ (.string ⟨#[]⟩)).setCell ⟨w.heap.size+1,0,none⟩ (.int .i64 2)=W4:=⟨_,rfl⟩
   rw [hW4] at T4 ⊢
   clear hW4 c0 c1 f0 f1
   refine leaves_cons (f:=91) (args := #[.pointer (some ⟨w.heap.size,0,none⟩), .pointer (some ⟨w.heap.size+1,0,none⟩)]) (by simp) (by simp [go_sem]) ?_
   refine (catch2_idle w.heap.size (w.heap.size+1) W4).mono ?_
   rintro e' u' w5 ⟨⟨v', rfl⟩,rfl,hb5⟩
   simp only [settle]
   refine ⟨_,results2 rfl rfl rfl ((hb5.block _ T4.k0.lt).trans T4.k0) ((hb5.block _ T4.k1.lt).trans T4.k1),?_,T4.below.trans (hb5.mono (Nat.le_of_lt T4.k0.lt))⟩
   rw [HCX.out,if_pos hlen]
  ·have hl' : ¬ (65536:Int)<(X.length:Int):=by omega
   go_wp2_with fail
   have T4:=((T2.out.set0 (.string ⟨X.toArray⟩)).set0 (.string ⟨X.toArray⟩)).set1 (.int .i64 0)
   obtain ⟨W4,hW4⟩:∃W4,((w2.setCell ⟨w.heap.size,0,none⟩ (.string ⟨X.toArray⟩)).setCell ⟨w.heap.size,0,none⟩ (.string ⟨X.toArray⟩)).setCell ⟨w.heap.size+1,0,none⟩ (.int .i64 0)=W4:=⟨_,rfl⟩
   rw [hW4] at T4 ⊢
   clear hW4 c0 c1 f0 f1
   refine leaves_cons (f:=91) (args := #[.pointer (some ⟨w.heap.size,0,none⟩), .pointer (some ⟨w.heap.size+1,0,none⟩)]) (by simp) (by simp [go_sem]) ?_
   refine (catch2_idle w.heap.size (w.heap.size+1) W4).mono ?_
   rintro e' u' w5 ⟨⟨v', rfl⟩,rfl,hb5⟩
   simp only [settle]
   refine ⟨_,results2 rfl rfl rfl ((hb5.block _ T4.k0.lt).trans T4.k0) ((hb5.block _ T4.k1.lt).trans T4.k1),?_,T4.below.trans (hb5.mono (Nat.le_of_lt T4.k0.lt))⟩
   rw [HCX.out,if_neg hlen]
 ·have T1:Hid (Two w w1 w.heap.size (.string ⟨#[]⟩) (.int .i64 0)):=⟨(hb1.block _ H0.out.lt).trans H0.out,(hb1.block _ H1.out.lt).trans H1.out,Hb.out.trans (hb1.mono Hb.out.size)⟩
  have HC:Hid (writeOf f=([],chk f)):=by show _=_;unfold writeOf;rw [if_pos hc]
  clear hc hb1 H0 H1 Hb
  go_wp2_with fail
  refine leaves_cons (f:=91) (args := #[.pointer (some ⟨w.heap.size,0,none⟩), .pointer (some ⟨w.heap.size+1,0,none⟩)]) (by simp) (by simp [go_sem]) ?_
  refine (catch2_fault w.heap.size (w.heap.size+1) (chk f) 0 _ _ w1 T1.out.k0 T1.out.k1 (by omega)).mono ?_
  rintro e' u' w3 ⟨⟨⟨v', rfl⟩,v'', rfl⟩,hb3,k0,k1⟩
  simp only [settle]
  refine ⟨_,results2 rfl rfl rfl k0 k1,by rw [HC.out],?_⟩
  exact T1.out.below.trans ⟨hb3.os,hb3.tape,hb3.output,hb3.size,fun y hy=>hb3.block y (by have:=T1.out.k0.lt;omega) (by omega) (by omega) (by omega)⟩
inductive Fm where
 | nil
 | cons (kind:Int) (text:List UInt8) (names:List (List UInt8)) (kids:Fm) (dk dn:Int) (dt:List UInt8) (ds:Fo) (dd:Bool) (rest:Fm)
structure Dt where
 k:Int
 n:Int
 t:List UInt8
 s:Fo
 d:Bool
structure Frm where
 kind:Int
 text:List UInt8
 names:List (List UInt8)
 kids:Fm
 dat:Dt
def Dt.fo (x:Dt) (r:Fo):Fo := .cons x.k x.n x.t x.s x.d r
def Frm.fm (x:Frm) (r:Fm):Fm := .cons x.kind x.text x.names x.kids x.dat.k x.dat.n x.dat.t x.dat.s x.dat.d r
def dt0:Dt:=⟨0,0,[], .nil,false⟩
def frm0:Frm:=⟨0,[],[], .nil,dt0⟩
def Fm.len:Fm→Nat
 | .nil=>0
 | .cons _ _ _ _ _ _ _ _ _ r=>r.len+1
def Fm.app:Fm→Fm→Fm
 | .nil,g=>g
 | .cons a b c d e f g h i r,g' => .cons a b c d e f g h i (r.app g')
theorem Fm.app_nil (f:Fm):f.app .nil=f:=by induction f with|nil=>rfl|cons a b c d e f g h i r _ ih=>simp [Fm.app,ih]
theorem Fm.app_assoc (f g h:Fm):(f.app g).app h=f.app (g.app h):=by induction f with|nil=>rfl|cons a b c d e f g h i r _ ih=>simp [Fm.app,ih]
theorem Fm.len_app (f g:Fm):(f.app g).len=f.len+g.len:=by
 induction f with
 | nil=>simp [Fm.app,Fm.len]
 | cons a b c d e f g h i r _ ih=>simp [Fm.app,Fm.len,ih];omega
theorem Frm.len1 (x:Frm):(x.fm .nil).len=1:=rfl
def Fo.hd:Fo→Dt
 | .nil=>dt0
 | .cons k n t s d _=>⟨k,n,t,s,d⟩
def Fo.tl:Fo→Fo
 | .nil => .nil
 | .cons _ _ _ _ _ r=>r
def primL:List (List UInt8 × Int):=[([99,111,110,115],2),([99,97,114],1),([99,100,114],1),([115,101,116,45,99,97,114,33],2),([115,101,116,45,99,100,114,33],2),([98,111,120],1),([117,110,98,111,120],1),([115,101,116,45,98,111,120,33],2),([99,97,115],3),([97,100,100],2),([101,113,63],2),([110,117,108,108,63],1),([112,97,105,114,63],1),([105,110,116,63],1),([43],2),([45],2),([42],2),([113,117,111,116,105,101,110,116],2),([114,101,109,97,105,110,100,101,114],2),([60],2),([110,111,116],1),([101,114,114,111,114],1)]
def shpL:List (List UInt8 × Int × Int × Int):=[([113,117,111,116,101],1,0,0),([],0,0,0),([105,102],0,2,3),([108,97,109,98,100,97],1,1,9223372036854775807),([100,101,102,105,110,101],1,1,1),([115,101,116,33],1,1,1),([98,101,103,105,110],0,1,9223372036854775807),([108,101,116],1,1,9223372036854775807),([119,104,105,108,101],0,1,9223372036854775807),([],0,1,9223372036854775807),([115,112,97,119,110],0,1,1),([106,111,105,110],0,1,1),([108,111,99,107],0,1,1),([117,110,108,111,99,107],0,1,1),([121,105,101,108,100],0,0,0)]
def primOf (s:List UInt8):Option Nat:=(primL.findIdx? (fun x=>x.1 == s)).map (· + 1)
def argsOf (p:Nat):Int:=(primL.getD (p-1) ([],0)).2
def kwOf (s:List UInt8):Option Nat:=if s=[] then none else (shpL.findIdx? (fun x=>x.1 == s)).map (· + 1)
def shpOf (k:Nat):List UInt8 × Int × Int × Int:=shpL.getD (k-1) ([],0,0,0)
def takesB (k:Nat) (n:Int):Bool:=decide ((shpOf k).2.2.1≤n) && decide (n≤(shpOf k).2.2.2)
def canB (x:Dt):Bool:=(writeOf (x.fo .nil)).2 == 0
def nameB (s:List UInt8):Bool:=(kwOf s).isNone && canB ⟨2,0,s, .nil,false⟩
def varB (s:List UInt8):Bool:=(primOf s).isNone && nameB s
def argsB (s:List UInt8) (n:Int):Bool:=match primOf s with|none=>true|some p=>argsOf p == n
inductive PR (α : Type) where
 | ok (a : α)
 | bad (e:Int) (p:List Int)
def PR.within {α : Type} (i:Int):PR α → PR α
 | .ok a => .ok a
 | .bad e p => .bad e (i::p)
def PR.then {α β : Type} (x:PR α) (K : α → PR β):PR β :=
 match x with
 | .ok a=>K a
 | .bad e p => .bad e p
def formsM (R:Dt→PR Frm):Int→Fo→PR Fm
 | _, .nil => .ok .nil
 | i, .cons k n t s d r=>((R ⟨k,n,t,s,d⟩).within i).then fun x=>(formsM R (i+1) r).then fun g => .ok (x.fm g)
def newM (ahead:List (List UInt8)) (k:Int) (t:List UInt8):PR (List UInt8) :=
 if k≠2 || !varB t then .bad 71 [] else if t∈ahead then .bad 72 [] else .ok t
def namesM (ahead:List (List UInt8)):Int→Fo→PR (List (List UInt8))
 | _, .nil => .ok []
 | i, .cons k _ t _ _ r=>((newM ahead k t).within i).then fun x=>(namesM (ahead++[x]) (i+1) r).then fun l => .ok (x::l)
def isListB (k:Int) (d:Bool):Bool:=k == 5 && !d
def bindM (R:Dt→PR Frm) (ahead:List (List UInt8)) (x:Dt):PR (List UInt8 × Frm) :=
 if !isListB x.k x.d || x.s.len != 2 then .bad 70 []
 else ((newM ahead x.s.hd.k x.s.hd.t).within 0).then fun a=>((R x.s.tl.hd).within 1).then fun f => .ok (a,f)
def bindsM (R:Dt→PR Frm) (ahead:List (List UInt8)):Int→Fo→PR (List (List UInt8) × Fm)
 | _, .nil => .ok ([], .nil)
 | i, .cons k n t s d r=>((bindM R ahead ⟨k,n,t,s,d⟩).within i).then fun x=>(bindsM R (ahead++[x.1]) (i+1) r).then fun y => .ok (x.1::y.1,x.2.fm y.2)
def namesD (x:Dt):PR (List (List UInt8)):=if !isListB x.k x.d then .bad 70 [] else namesM [] 0 x.s
def bindsD (R:Dt→PR Frm) (x:Dt):PR (List (List UInt8) × Fm):=if !isListB x.k x.d then .bad 70 [] else bindsM R [] 0 x.s
def variM (k:Int) (t:List UInt8):PR (List UInt8):=if k≠2 || !varB t then .bad 71 [] else .ok t
def rowPlain (R:Dt→PR Frm) (x:Dt):PR Frm:=(formsM R 1 x.s.tl).then fun g => .ok { frm0 with kids:=g }
def rowQuoted (x:Dt):PR Frm := .ok { frm0 with dat:=x.s.tl.hd }
def rowNamed (R:Dt→PR Frm) (x:Dt):PR Frm:=((variM x.s.tl.hd.k x.s.tl.hd.t).within 1).then fun a=>(formsM R 2 x.s.tl.tl).then fun g => .ok { frm0 with text:=a,kids:=g }
def rowLambda (R:Dt→PR Frm) (x:Dt):PR Frm:=((namesD x.s.tl.hd).within 1).then fun l=>(formsM R 2 x.s.tl.tl).then fun g => .ok { frm0 with names:=l,kids:=g }
def rowLet (R:Dt→PR Frm) (x:Dt):PR Frm:=((bindsD R x.s.tl.hd).within 1).then fun y=>(formsM R 2 x.s.tl.tl).then fun g => .ok { frm0 with names:=y.1,kids:=y.2.app g }
def rowM (R:Dt→PR Frm) (kd:Nat) (x:Dt):PR Frm :=
 if kd=1 then rowQuoted x else if kd=4 then rowLambda R x else if kd=5 then rowNamed R x else if kd=6 then rowNamed R x else if kd=8 then rowLet R x else rowPlain R x
def callM (R:Dt→PR Frm) (x:Dt):PR Frm :=
 if !argsB x.s.hd.t (x.s.len-1) then .bad 70 [] else (formsM R 0 x.s).then fun g => .ok { frm0 with kind:=10,kids:=g }
def listM (R:Dt→PR Frm) (within:Bool) (x:Dt):PR Frm :=
 if x.d || x.s.len == 0 then .bad 70 []
 else match kwOf x.s.hd.t with
  | none=>callM R x
  | some kd=>if !takesB kd (x.s.len-1-(shpOf kd).2.1) || (kd == 5 && within) then .bad 70 [] else (rowM R kd x).then fun f => .ok { f with kind:=kd }
def formM:Nat→Bool→Dt→PR Frm
 | 0,_,_ => .bad 0 []
 | K+1,within,x =>
  if x.k=5 then listM (formM K true) within x
  else if x.k=2 then (if nameB x.t then .ok { frm0 with kind:=2,text:=x.t } else .bad 71 [])
  else .ok { frm0 with kind:=1,dat:=x }
def ofM (x:Dt):Frm × Int × List Int :=
 if canB x then (match formM 200 false x with | .ok f=>(f,0,[]) | .bad e p=>(frm0,e,p)) else (frm0,70,[])
end Go.Proofs.YtkgnigloboajcaaGreatDoor
