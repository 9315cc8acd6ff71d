/- What is read are data: plain mathematics.; write: a number; a list.; writeList. -/
import Derived.Test.YtkgnigloboajcaaGreatDoorK13
import Derived.Test.YtkgnigloboajcaaGreatDoorK14
set_option maxRecDepth 100000
set_option maxHeartbeats 4000000
namespace Go.Proofs.YtkgnigloboajcaaGreatDoor
open Go.RowKit
def TB (w:World):Prop:=Lib.TabIs Tryz.prog w "internal/strconv.uint64pow10" .u64 Lib.pow10Tab
theorem TB.below {w w' : World} (h:TB w) (hb:Below w.heap.size w w'):TB w' := by
 unfold TB Lib.TabIs World.var? at *
 cases hg:Tryz.prog.globalNamed "internal/strconv.uint64pow10" with
 | none=>rw [hg] at h;cases h
 | some g =>
  rw [hg] at h
  simp only [Option.bind_some] at h ⊢
  cases ho:w.heap[g]? with
  | none=>rw [ho] at h;cases h
  | some o=>rw [hb.block g (Array.getElem?_eq_some_iff.1 ho).1,ho];rw [ho] at h;exact h
theorem Kp.at {B b:Nat} {w w' : World} (h:Kp B b w w') {g:Nat} {cs:Array Value} {f:Nat × Nat} (hg:w.heap[g]?=some (.cells cs 32 f)) (hb:g≠b):w'.heap[g]?=some (.cells cs 32 f) :=
 h.2 g _ hg (fun e=>hb (Option.some.inj e)) (fun c fz e=>by cases e)
theorem Bu.le {B b:Nat} {l:List UInt8} {w:World} (h:Bu B b l w):B≤b∧b<w.heap.size:=h.elim (fun h=>⟨h.1,(Array.getElem?_eq_some_iff.1 h.2.choose_spec.1).1⟩) (fun h=>⟨h.1,(Array.getElem?_eq_some_iff.1 h.2.choose_spec.1).1⟩)
theorem below_grow (w:World) (k:Nat) (os:Array Obj):Below w.heap.size w (Go.Sort.grow (w.drewN k) os) :=
 ⟨rfl,rfl,rfl,by show _≤(w.heap++os).size;rw [Array.size_append];omega,fun g hg=>by show (w.heap++os)[g]?=_;rw [Array.getElem?_append_left hg]⟩
theorem write_1 (n:Int) (t:List UInt8) (s:Fo) (d:Bool) (rk:Option Addr) (ck B b:Nat) (l:List UInt8) (w:World) (h:Bu B b l w) (h0 : -9223372036854775808≤n) (h1:n≤9223372036854775807) (hT:TB w) (hlen:l.length+(Lib.itoa n).length≤140737488355328) (hBw:B≤w.heap.size) :
  Calls Tryz.prog 132 #[.pointer (some ⟨b,0,none⟩), .agg #[.int .u8 1, .int .i64 n,S t, .slice rk s.len ck, .bool d]] w fun e w' => (∃v,e = .returned v)∧Bu B b (l++Lib.itoa n) w' ∧ Kp B b w w' := by
 have H:Hid (Bu B b l w):=h
 have HT:Hid (TB w):=hT
 clear h hT
 have hal:Below w.heap.size w (w.alloc (.cells #[.int .u8 1, .int .i64 n,S t, .slice rk s.len ck, .bool d] 32)):=(Below.refl _ w).alloc (Nat.le_refl _) _
 have Hal:Hid _:=hal
 clear hal
 go_enter Tryz.func132,Tryz.ntmps132
 go_wp2_with fail
 refine (Tryz.strconv_FormatInt_10 n h0 h1 _ (HT.out.below Hal.out)).mono ?_
 rintro e w1 ⟨rfl,kk,os,rfl⟩
 have hg:=below_grow (w.alloc (.cells #[.int .u8 1, .int .i64 n,S t, .slice rk s.len ck, .bool d] 32)) kk os
 obtain ⟨w1,hw1⟩:∃w1,Go.Sort.grow ((w.alloc (.cells #[.int .u8 1, .int .i64 n,S t, .slice rk s.len ck, .bool d] 32)).drewN kk) os=w1:=⟨_,rfl⟩
 rw [hw1] at hg ⊢
 have Hg:Hid (Below w.heap.size w w1):=Hal.out.trans (hg.mono Hal.out.size)
 clear hg hw1
 go_wp2_with fail
 refine (putS B b l (Lib.itoa n) _ (Bu.kept H.out Hg.out) hlen (Nat.le_trans hBw Hg.out.size)).mono ?_
 rintro e w2 ⟨⟨v,rfl⟩,hB1,hK1⟩
 have HB1:Hid (Bu B b _ w2):=hB1
 have HK1:Hid (Kp B b _ w2):=hK1
 clear hB1 hK1
 go_wp2
 go_end0
 exact ⟨⟨_,rfl⟩,HB1.out,(Kp.below Hg.out hBw).trans HK1.out⟩
def WriteC (N:Nat):Prop:=∀(k n:Int) (t:List UInt8) (s:Fo) (d:Bool) (rk:Option Addr) (ck B b:Nat) (l:List UInt8) (W w:World),s.size≤N→s.len≤maxLen→isDat k n t s d=true→allD s=true→RS W rk s→TB W→Below W.heap.size W w→W.heap.size≤B→B≤w.heap.size→Bu B b l w →
 l.length+(oneT k n t s d (textsT s)).length≤140737488355328 →
 Calls Tryz.prog 132 #[.pointer (some ⟨b,0,none⟩), .agg #[.int .u8 k, .int .i64 n,S t, .slice rk s.len ck, .bool d]] w fun e w' => (∃v,e = .returned v)∧Bu B b (l++oneT k n t s d (textsT s)) w' ∧ Kp B b w w'
def ListC2 (N:Nat):Prop:=∀(k n:Int) (t:List UInt8) (s:Fo) (d:Bool) (rk:Option Addr) (ck B b:Nat) (l:List UInt8) (W w:World),s.size≤N→s.len≤maxLen→allD s=true→RS W rk s→TB W→Below W.heap.size W w→W.heap.size≤B→B≤w.heap.size→Bu B b l w →
 l.length+(kidsT d true (textsT s)).length+2≤140737488355328 →
 Calls Tryz.prog 164 #[.pointer (some ⟨b,0,none⟩), .agg #[.int .u8 k, .int .i64 n,S t, .slice rk s.len ck, .bool d]] w fun e w' => (∃v,e = .returned v)∧Bu B b (l++40::(kidsT d true (textsT s)++[41])) w' ∧ Kp B b w w'
theorem rows_of {N:Nat} (h:∀M,M<N→WriteC M):ListC2 N:=by
 intro k n t s d rk ck B b l W w hN hm hD hR hTB hW hWB hBw hB hlen
 have HR:Hid (RS W rk s):=hR
 have HTB:Hid (TB W):=hTB
 have HW:Hid (Below W.heap.size W w):=hW
 have HB:Hid (Bu B b l w):=hB
 have HC:Hid (∀M,M<N→WriteC M):=h
 have HD:Hid (allD s=true):=hD
 have hal:Below w.heap.size w (w.alloc (.cells #[.int .u8 k, .int .i64 n,S t, .slice rk s.len ck, .bool d] 32)):=(Below.refl _ w).alloc (Nat.le_refl _) _
 have Hal:Hid _:=hal
 have HQ0:Hid _:=World.alloc_heap_new w (.cells #[.int .u8 k, .int .i64 n,S t, .slice rk s.len ck, .bool d] 32)
 have hbl:=hB.le
 have hmm:=hm
 unfold maxLen at hmm
 clear hR hTB hW hB h hD hal
 go_enter Tryz.func164,Tryz.ntmps164
 go_wp2_with fail
 refine (putB B b l 40 (by decide) _ (HB.out.kept Hal.out) (by omega) (Nat.le_trans hBw Hal.out.size)).mono ?_
 rintro e w1 ⟨rfl,hB1,hK1⟩
 have HB1:Hid (Bu B b (l++[40]) w1):=hB1
 have HK1:Hid (Kp B b w w1):=(Kp.below Hal.out hBw).trans hK1
 have q1:=hK1.at HQ0.out (by omega)
 have HQ1:Hid _:=q1
 obtain ⟨z0,z1,z2,z3,z4,_⟩:=cells5 q1
 have zl:w.heap.size<w1.heap.size:=(Array.getElem?_eq_some_iff.1 q1).1
 clear hB1 hK1 q1
 go_wp2
 obtain ⟨b0,o,hab,hRd⟩:=HR.out
 have HRd:Hid (Rd W b0 o s):=hRd
 have Hra:Hid (s.len≠0→rk=some ⟨b0,o,none⟩):=fun h=>hab.resolve_left h
 clear hRd hab z0 z1 z2 z3 z4 zl
 go_loopw [11] (fun i wr=>∃(j:Nat) (fi:Fo) (m:List UInt8),i = .int .i64 j∧fi.len+j=s.len∧fi.size≤s.size∧Hid (allD fi=true)∧Hid (Rd W b0 (o+j*5) fi)∧Hid (Bu B b m wr)∧Hid (Kp B b w wr)∧Hid (wr.heap[w.heap.size]?=some (.cells #[.int .u8 k, .int .i64 n,S t, .slice rk s.len ck, .bool d] 32 (0,0)))∧Hid (m++kidsT d (decide (j=0)) (textsT fi)=l++40::kidsT d true (textsT s))) (fun i _=>s.len-(intOf i).toNat)
 case atStart=>exact ⟨0,s,l++[40],rfl,by simp,Nat.le_refl _,HD,by simpa using HRd,HB1,HK1,HQ1,by show _=_;simp⟩
 case round =>
  obtain ⟨j,fi,m,rfl,hj,hsz,HDi,HF,HBj,HKj,HQj,HTj⟩:=hrel
  have hlm:m.length+(kidsT d (decide (j=0)) (textsT fi)).length+1≤140737488355328:=by
   have:=congrArg List.length HTj.out
   simp only [List.length_append,List.length_cons] at this
   omega
  have hBr:B≤wr.heap.size:=Nat.le_trans hBw HKj.out.1.size
  cases fi with
  | nil =>
   have hj' : j=s.len:=by simpa [Fo.len] using hj
   have HJ:Hid _:=hj'
   have hjl:¬ ((j:Int)<(s.len:Int)):=by omega
   clear hj hj'
   go_wp2_with fail
   refine (putB B b m 41 (by decide) _ HBj.out (by omega) hBr).mono ?_
   rintro e w2 ⟨rfl,hB2,hK2⟩
   have HB2:Hid _:=hB2
   have HK2:Hid (Kp B b w w2):=HKj.out.trans hK2
   clear hB2 hK2
   go_wp2
   go_end0
   refine ⟨⟨_,rfl⟩,?_,HK2.out⟩
   have e:=HTj.out
   simp only [textsT,kidsT,List.append_nil] at e
   have e2:=HB2.out
   rw [e] at e2
   rw [show l++40::(kidsT d true (textsT s)++[41])=l++40::kidsT d true (textsT s)++[41] by simp]
   exact e2
  | cons k' n' t' s' d' r' =>
   have HWr:Hid (Below W.heap.size W wr):=HW.out.trans (HKj.out.1.mono hWB)
   obtain ⟨⟨g0,g1,g2,g3,g4,g5⟩,⟨rk', ck', bk', ok', gk,gz,gs⟩,gr⟩:=HF.out
   have ec:∀o,wr.cell? ⟨b0,o,none⟩=W.cell? ⟨b0,o,none⟩:=fun o=>HWr.out.cell (p:=⟨b0,o,none⟩) g0
   have h1:=(ec _).trans g1
   have h2:=(ec _).trans g2
   have h3:=(ec _).trans g3
   have h4:=(ec _).trans g4
   have hk:=(ec _).trans gk
   have h0:b0<wr.heap.size:=Nat.lt_of_lt_of_le g0 HWr.out.size
   simp only [Fo.len] at hj
   simp only [Fo.size] at hsz
   have hdi:=HDi.out
   simp only [allD,Bool.and_eq_true] at hdi
   have Hi1:Hid (isDat k' n' t' s' d' = true):=hdi.1
   have Hi2:Hid (allD s' = true):=hdi.2.1
   have Hi3:Hid (allD r' = true):=hdi.2.2
   have HRk:Hid (RS W rk' s'):=⟨bk', ok', gz,gs⟩
   have Hr:Hid _:=gr
   have hjs:j<s.len:=by omega
   have hra:=Hra.out (by omega)
   subst hra
   have i1:(j:Int)<(s.len:Int):=by omega
   have HA:Hid (Below wr.heap.size wr (wr.alloc (.cells #[.int .u8 k', .int .i64 n', S t', .slice rk' s'.len ck', .bool d'] 32))):=(Below.refl _ wr).alloc (Nat.le_refl _) _
   have HAq:Hid _:=World.alloc_heap_new wr (.cells #[.int .u8 k', .int .i64 n', S t', .slice rk' s'.len ck', .bool d'] 32)
   have hws:w.heap.size<wr.heap.size:=(Array.getElem?_eq_some_iff.1 HQj.out).1
   have hbr:=HBj.out.le
   clear gz gs gr g1 g2 g3 g4 gk ec hdi HDi
   by_cases hj0:j=0
   ·have dj:decide (j=0)=true:=decide_eq_true hj0
    have i2:¬ ((0:Int)<(j:Int)):=by omega
    clear hj0
    cases d with
    | false =>
     have HE:Hid (m++([]++(oneT k' n' t' s' d' (textsT s')++kidsT false false (textsT r')))=l++40::kidsT false true (textsT s)):=by
      have e:=HTj.out
      simp only [textsT,kidsT,dj,Bool.false_and,if_true,if_false,Bool.false_eq_true,List.nil_append] at e
      show _=_
      simpa [textsT,kidsT] using e
     have hle:m.length+(0+((oneT k' n' t' s' d' (textsT s')).length+(kidsT false false (textsT r')).length))+1≤140737488355328:=by
      have:=congrArg List.length HE.out
      simp only [List.length_append,List.length_cons,List.length_nil] at this
      omega
     clear hlm
     obtain ⟨z0,z1,z2,z3,z4,_⟩:=cells5 HQj.out
     go_wp2_with fail
     have hcall:=HC.out s'.size (by omega) k' n' t' s' d' rk' ck' B b m W (wr.alloc (.cells #[.int .u8 k', .int .i64 n', S t', .slice rk' s'.len ck', .bool d'] 32)) (Nat.le_refl _) g5 Hi1.out Hi2.out HRk.out HTB.out (HW.out.trans ((HKj.out.trans (Kp.below HA.out hBr)).1.mono hWB)) hWB (Nat.le_trans hBr HA.out.size) (HBj.out.kept HA.out) (by first|omega|(simp only [List.length_append,List.length_cons,List.length_nil];omega))
     refine hcall.mono ?_
     rintro e w4 ⟨⟨v,rfl⟩,hB4,hK4⟩
     have HB4:Hid _:=hB4
     have HK4:Hid (Kp B b w w4):=(HKj.out.trans (Kp.below HA.out hBr)).trans hK4
     have HQ4:Hid _:=hK4.at ((HA.out.block _ hws).trans HQj.out) (by omega)
     clear hcall hB4 hK4 z0 z1 z2 z3 z4 h1 h2 h3 h4 hk
     go_wp2
     go_roundw
     case rel=>exact ⟨j+1,r', _,by go_num,by omega,by omega,Hi3,by rw [show o+(j+1)*5=o+j*5+5 by omega];exact Hr,HB4,HK4,HQ4,by show _=_;rw [←HE.out];simp⟩
     case measure=>simp [intOf];omega
    | true =>
     cases r' with
     | nil =>
      simp only [Fo.len,Fo.size] at hj hsz
      have b7:((j:Int) == (s.len:Int)-1)=true:=by rw [beq_iff_eq];omega
      have HE:Hid (m++([46,32]++(oneT k' n' t' s' d' (textsT s')++kidsT true false (textsT .nil)))=l++40::kidsT true true (textsT s)):=by
       have e:=HTj.out
       simp only [textsT,kidsT,dj,Bool.true_and,List.isEmpty_nil,if_true,List.nil_append] at e
       show _=_
       simpa [textsT,kidsT] using e
      have hle:m.length+(2+((oneT k' n' t' s' d' (textsT s')).length+(kidsT true false (textsT .nil)).length))+1≤140737488355328:=by
       have:=congrArg List.length HE.out
       simp only [List.length_append,List.length_cons,List.length_nil] at this
       omega
      clear hlm
      obtain ⟨z0,z1,z2,z3,z4,_⟩:=cells5 HQj.out
      go_wp2_with fail
      refine (putS B b m [46,32] _ (HBj.out.kept HA.out) (by first|omega|(simp only [List.length_cons,List.length_nil];omega)) (Nat.le_trans hBr HA.out.size)).mono ?_
      rintro e w3 ⟨⟨v,rfl⟩,hB3,hK3⟩
      have HB3:Hid (Bu B b (m++[46,32]) w3):=hB3
      have HK3:Hid (Kp B b w w3):=(HKj.out.trans (Kp.below HA.out hBr)).trans hK3
      have q3:=hK3.at HAq.out (by omega)
      have p3:=hK3.at ((HA.out.block _ hws).trans HQj.out) (by omega)
      have HQ3:Hid _:=q3
      have HP3:Hid _:=p3
      clear z0 z1 z2 z3 z4 h1 h2 h3 h4 hk
      obtain ⟨y0,y1,y2,y3,y4,_⟩:=cells5 q3
      obtain ⟨x0,x1,x2,x3,x4,_⟩:=cells5 p3
      have l3:wr.heap.size<w3.heap.size:=(Array.getElem?_eq_some_iff.1 q3).1
      have m3:w.heap.size<w3.heap.size:=by omega
      clear hB3 hK3 q3 p3
      go_wp2_with fail
      have hcall:=HC.out s'.size (by omega) k' n' t' s' d' rk' ck' B b (m++[46,32]) W w3 (Nat.le_refl _) g5 Hi1.out Hi2.out HRk.out HTB.out (HW.out.trans (HK3.out.1.mono hWB)) hWB (Nat.le_trans hBw HK3.out.1.size) HB3.out (by first|omega|(simp only [List.length_append,List.length_cons,List.length_nil];omega))
      refine hcall.mono ?_
      rintro e w4 ⟨⟨v,rfl⟩,hB4,hK4⟩
      have HB4:Hid _:=hB4
      have HK4:Hid (Kp B b w w4):=HK3.out.trans hK4
      have HQ4:Hid _:=hK4.at HP3.out (by omega)
      clear hcall hB4 hK4 y0 y1 y2 y3 y4 x0 x1 x2 x3 x4
      go_wp2
      go_roundw
      case rel=>exact ⟨j+1, .nil,_,by go_num,by simp only [Fo.len];omega,by simp only [Fo.size];omega,Hi3,by rw [show o+(j+1)*5=o+j*5+5 by omega];exact Hr,HB4,HK4,HQ4,by show _=_;rw [←HE.out];simp⟩
      case measure=>simp [intOf];omega
     | cons k2 n2 t2 s2 d2 r2 =>
      simp only [Fo.len,Fo.size] at hj hsz
      have b7:((j:Int) == (s.len:Int)-1)=false:=by rw [beq_eq_false_iff_ne];omega
      have HE:Hid (m++([]++(oneT k' n' t' s' d' (textsT s')++kidsT true false (textsT (.cons k2 n2 t2 s2 d2 r2))))=l++40::kidsT true true (textsT s)):=by
       have e:=HTj.out
       simp only [textsT,kidsT,dj,Bool.true_and,List.isEmpty_cons,if_true,if_false,Bool.false_eq_true,List.nil_append] at e
       show _=_
       simpa [textsT,kidsT] using e
      have hle:m.length+(0+((oneT k' n' t' s' d' (textsT s')).length+(kidsT true false (textsT (.cons k2 n2 t2 s2 d2 r2))).length))+1≤140737488355328:=by
       have:=congrArg List.length HE.out
       simp only [List.length_append,List.length_cons,List.length_nil] at this
       omega
      clear hlm
      obtain ⟨z0,z1,z2,z3,z4,_⟩:=cells5 HQj.out
      go_wp2_with fail
      have hcall:=HC.out s'.size (by omega) k' n' t' s' d' rk' ck' B b m W (wr.alloc (.cells #[.int .u8 k', .int .i64 n', S t', .slice rk' s'.len ck', .bool d'] 32)) (Nat.le_refl _) g5 Hi1.out Hi2.out HRk.out HTB.out (HW.out.trans ((HKj.out.trans (Kp.below HA.out hBr)).1.mono hWB)) hWB (Nat.le_trans hBr HA.out.size) (HBj.out.kept HA.out) (by first|omega|(simp only [List.length_append,List.length_cons,List.length_nil];omega))
      refine hcall.mono ?_
      rintro e w4 ⟨⟨v,rfl⟩,hB4,hK4⟩
      have HB4:Hid _:=hB4
      have HK4:Hid (Kp B b w w4):=(HKj.out.trans (Kp.below HA.out hBr)).trans hK4
      have HQ4:Hid _:=hK4.at ((HA.out.block _ hws).trans HQj.out) (by omega)
      clear hcall hB4 hK4 z0 z1 z2 z3 z4 h1 h2 h3 h4 hk
      go_wp2
      go_roundw
      case rel=>exact ⟨j+1,(.cons k2 n2 t2 s2 d2 r2),_,by go_num,by simp only [Fo.len];omega,by simp only [Fo.size];omega,Hi3,by rw [show o+(j+1)*5=o+j*5+5 by omega];exact Hr,HB4,HK4,HQ4,by show _=_;rw [←HE.out];simp⟩
      case measure=>simp [intOf];omega
   ·have dj:decide (j=0)=false:=decide_eq_false hj0
    have i2:(0:Int)<(j:Int):=by omega
    clear hj0
    cases d with
    | false =>
     have HE:Hid (m++([32]++(oneT k' n' t' s' d' (textsT s')++kidsT false false (textsT r')))=l++40::kidsT false true (textsT s)):=by
      have e:=HTj.out
      simp only [textsT,kidsT,dj,Bool.false_and,if_false,Bool.false_eq_true,List.nil_append] at e
      show _=_
      simpa [textsT,kidsT] using e
     have hle:m.length+(1+((oneT k' n' t' s' d' (textsT s')).length+(kidsT false false (textsT r')).length))+1≤140737488355328:=by
      have:=congrArg List.length HE.out
      simp only [List.length_append,List.length_cons,List.length_nil] at this
      omega
     clear hlm
     obtain ⟨z0,z1,z2,z3,z4,_⟩:=cells5 HQj.out
     go_wp2_with fail
     refine (putB B b m 32 (by decide) _ (HBj.out.kept HA.out) (by first|omega|(simp only [List.length_append,List.length_cons,List.length_nil];omega)) (Nat.le_trans hBr HA.out.size)).mono ?_
     rintro e w2 ⟨rfl,hB2,hK2⟩
     have HB2:Hid (Bu B b (m++[32]) w2):=hB2
     have HK2:Hid (Kp B b w w2):=(HKj.out.trans (Kp.below HA.out hBr)).trans hK2
     have q2:=hK2.at HAq.out (by omega)
     have p2:=hK2.at ((HA.out.block _ hws).trans HQj.out) (by omega)
     have HQ2:Hid _:=q2
     have HP2:Hid _:=p2
     clear z0 z1 z2 z3 z4 h1 h2 h3 h4 hk
     obtain ⟨y0,y1,y2,y3,y4,_⟩:=cells5 q2
     obtain ⟨x0,x1,x2,x3,x4,_⟩:=cells5 p2
     have l2:wr.heap.size<w2.heap.size:=(Array.getElem?_eq_some_iff.1 q2).1
     have m2:w.heap.size<w2.heap.size:=by omega
     clear hB2 hK2 q2 p2
     go_wp2_with fail
     have hcall:=HC.out s'.size (by omega) k' n' t' s' d' rk' ck' B b (m++[32]) W w2 (Nat.le_refl _) g5 Hi1.out Hi2.out HRk.out HTB.out (HW.out.trans (HK2.out.1.mono hWB)) hWB (Nat.le_trans hBw HK2.out.1.size) HB2.out (by first|omega|(simp only [List.length_append,List.length_cons,List.length_nil];omega))
     refine hcall.mono ?_
     rintro e w4 ⟨⟨v,rfl⟩,hB4,hK4⟩
     have HB4:Hid _:=hB4
     have HK4:Hid (Kp B b w w4):=HK2.out.trans hK4
     have HQ4:Hid _:=hK4.at HP2.out (by omega)
     clear hcall hB4 hK4 y0 y1 y2 y3 y4 x0 x1 x2 x3 x4
     go_wp2
     go_roundw
     case rel=>exact ⟨j+1,r', _,by go_num,by omega,by omega,Hi3,by rw [show o+(j+1)*5=o+j*5+5 by omega];exact Hr,HB4,HK4,HQ4,by show _=_;rw [←HE.out];simp⟩
     case measure=>simp [intOf];omega
    | true =>
     cases r' with
     | nil =>
      simp only [Fo.len,Fo.size] at hj hsz
      have b7:((j:Int) == (s.len:Int)-1)=true:=by rw [beq_iff_eq];omega
      have HE:Hid (m++([32,46,32]++(oneT k' n' t' s' d' (textsT s')++kidsT true false (textsT .nil)))=l++40::kidsT true true (textsT s)):=by
       have e:=HTj.out
       simp only [textsT,kidsT,dj,Bool.true_and,List.isEmpty_nil,if_true,if_false,Bool.false_eq_true] at e
       show _=_
       simpa [textsT,kidsT] using e
      have hle:m.length+(3+((oneT k' n' t' s' d' (textsT s')).length+(kidsT true false (textsT .nil)).length))+1≤140737488355328:=by
       have:=congrArg List.length HE.out
       simp only [List.length_append,List.length_cons,List.length_nil] at this
       omega
      clear hlm
      obtain ⟨z0,z1,z2,z3,z4,_⟩:=cells5 HQj.out
      go_wp2_with fail
      refine (putB B b m 32 (by decide) _ (HBj.out.kept HA.out) (by first|omega|(simp only [List.length_append,List.length_cons,List.length_nil];omega)) (Nat.le_trans hBr HA.out.size)).mono ?_
      rintro e w2 ⟨rfl,hB2,hK2⟩
      have HB2:Hid (Bu B b (m++[32]) w2):=hB2
      have HK2:Hid (Kp B b w w2):=(HKj.out.trans (Kp.below HA.out hBr)).trans hK2
      have q2:=hK2.at HAq.out (by omega)
      have p2:=hK2.at ((HA.out.block _ hws).trans HQj.out) (by omega)
      have HQ2:Hid _:=q2
      have HP2:Hid _:=p2
      clear z0 z1 z2 z3 z4 h1 h2 h3 h4 hk
      obtain ⟨y0,y1,y2,y3,y4,_⟩:=cells5 q2
      obtain ⟨x0,x1,x2,x3,x4,_⟩:=cells5 p2
      have l2:wr.heap.size<w2.heap.size:=(Array.getElem?_eq_some_iff.1 q2).1
      have m2:w.heap.size<w2.heap.size:=by omega
      clear hB2 hK2 q2 p2
      go_wp2_with fail
      refine (putS B b (m++[32]) [46,32] _ HB2.out (by first|omega|(simp only [List.length_append,List.length_cons,List.length_nil];omega)) (Nat.le_trans hBw HK2.out.1.size)).mono ?_
      rintro e w3 ⟨⟨v,rfl⟩,hB3,hK3⟩
      have HB3:Hid (Bu B b ((m++[32])++[46,32]) w3):=hB3
      have HK3:Hid (Kp B b w w3):=HK2.out.trans hK3
      have q3:=hK3.at HQ2.out (by omega)
      have p3:=hK3.at HP2.out (by omega)
      have HQ3:Hid _:=q3
      have HP3:Hid _:=p3
      clear y0 y1 y2 y3 y4 x0 x1 x2 x3 x4
      obtain ⟨y0,y1,y2,y3,y4,_⟩:=cells5 q3
      obtain ⟨x0,x1,x2,x3,x4,_⟩:=cells5 p3
      have l3:wr.heap.size<w3.heap.size:=(Array.getElem?_eq_some_iff.1 q3).1
      have m3:w.heap.size<w3.heap.size:=by omega
      clear hB3 hK3 q3 p3
      go_wp2_with fail
      have hcall:=HC.out s'.size (by omega) k' n' t' s' d' rk' ck' B b ((m++[32])++[46,32]) W w3 (Nat.le_refl _) g5 Hi1.out Hi2.out HRk.out HTB.out (HW.out.trans (HK3.out.1.mono hWB)) hWB (Nat.le_trans hBw HK3.out.1.size) HB3.out (by first|omega|(simp only [List.length_append,List.length_cons,List.length_nil];omega))
      refine hcall.mono ?_
      rintro e w4 ⟨⟨v,rfl⟩,hB4,hK4⟩
      have HB4:Hid _:=hB4
      have HK4:Hid (Kp B b w w4):=HK3.out.trans hK4
      have HQ4:Hid _:=hK4.at HP3.out (by omega)
      clear hcall hB4 hK4 y0 y1 y2 y3 y4 x0 x1 x2 x3 x4
      go_wp2
      go_roundw
      case rel=>exact ⟨j+1, .nil,_,by go_num,by simp only [Fo.len];omega,by simp only [Fo.size];omega,Hi3,by rw [show o+(j+1)*5=o+j*5+5 by omega];exact Hr,HB4,HK4,HQ4,by show _=_;rw [←HE.out];simp⟩
      case measure=>simp [intOf];omega
     | cons k2 n2 t2 s2 d2 r2 =>
      simp only [Fo.len,Fo.size] at hj hsz
      have b7:((j:Int) == (s.len:Int)-1)=false:=by rw [beq_eq_false_iff_ne];omega
      have HE:Hid (m++([32]++(oneT k' n' t' s' d' (textsT s')++kidsT true false (textsT (.cons k2 n2 t2 s2 d2 r2))))=l++40::kidsT true true (textsT s)):=by
       have e:=HTj.out
       simp only [textsT,kidsT,dj,Bool.true_and,List.isEmpty_cons,if_false,Bool.false_eq_true,List.nil_append] at e
       show _=_
       simpa [textsT,kidsT] using e
      have hle:m.length+(1+((oneT k' n' t' s' d' (textsT s')).length+(kidsT true false (textsT (.cons k2 n2 t2 s2 d2 r2))).length))+1≤140737488355328:=by
       have:=congrArg List.length HE.out
       simp only [List.length_append,List.length_cons,List.length_nil] at this
       omega
      clear hlm
      obtain ⟨z0,z1,z2,z3,z4,_⟩:=cells5 HQj.out
      go_wp2_with fail
      refine (putB B b m 32 (by decide) _ (HBj.out.kept HA.out) (by first|omega|(simp only [List.length_append,List.length_cons,List.length_nil];omega)) (Nat.le_trans hBr HA.out.size)).mono ?_
      rintro e w2 ⟨rfl,hB2,hK2⟩
      have HB2:Hid (Bu B b (m++[32]) w2):=hB2
      have HK2:Hid (Kp B b w w2):=(HKj.out.trans (Kp.below HA.out hBr)).trans hK2
      have q2:=hK2.at HAq.out (by omega)
      have p2:=hK2.at ((HA.out.block _ hws).trans HQj.out) (by omega)
      have HQ2:Hid _:=q2
      have HP2:Hid _:=p2
      clear z0 z1 z2 z3 z4 h1 h2 h3 h4 hk
      obtain ⟨y0,y1,y2,y3,y4,_⟩:=cells5 q2
      obtain ⟨x0,x1,x2,x3,x4,_⟩:=cells5 p2
      have l2:wr.heap.size<w2.heap.size:=(Array.getElem?_eq_some_iff.1 q2).1
      have m2:w.heap.size<w2.heap.size:=by omega
      clear hB2 hK2 q2 p2
      go_wp2_with fail
      have hcall:=HC.out s'.size (by omega) k' n' t' s' d' rk' ck' B b (m++[32]) W w2 (Nat.le_refl _) g5 Hi1.out Hi2.out HRk.out HTB.out (HW.out.trans (HK2.out.1.mono hWB)) hWB (Nat.le_trans hBw HK2.out.1.size) HB2.out (by first|omega|(simp only [List.length_append,List.length_cons,List.length_nil];omega))
      refine hcall.mono ?_
      rintro e w4 ⟨⟨v,rfl⟩,hB4,hK4⟩
      have HB4:Hid _:=hB4
      have HK4:Hid (Kp B b w w4):=HK2.out.trans hK4
      have HQ4:Hid _:=hK4.at HP2.out (by omega)
      clear hcall hB4 hK4 y0 y1 y2 y3 y4 x0 x1 x2 x3 x4
      go_wp2
      go_roundw
      case rel=>exact ⟨j+1,(.cons k2 n2 t2 s2 d2 r2),_,by go_num,by simp only [Fo.len];omega,by simp only [Fo.size];omega,Hi3,by rw [show o+(j+1)*5=o+j*5+5 by omega];exact Hr,HB4,HK4,HQ4,by show _=_;rw [←HE.out];simp⟩
      case measure=>simp [intOf];omega
end Go.Proofs.YtkgnigloboajcaaGreatDoor
