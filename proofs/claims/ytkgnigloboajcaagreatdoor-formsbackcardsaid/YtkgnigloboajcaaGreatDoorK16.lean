/- write of every datum.; Data that were read, as they are read in memory; the lengths of texts.; The deferred function of Write. -/
import Derived.Test.YtkgnigloboajcaaGreatDoorK09
import Derived.Test.YtkgnigloboajcaaGreatDoorK15
import Derived.Lib.ItoaLen
set_option maxRecDepth 100000
set_option maxHeartbeats 4000000
namespace Go.Proofs.YtkgnigloboajcaaGreatDoor
open Go.RowKit
theorem write_list {N:Nat} (hL:ListC2 N) (n:Int) (t:List UInt8) (s:Fo) (d:Bool) (rk:Option Addr) (ck B b:Nat) (l:List UInt8) (W w:World) (hN:s.size≤N) (hm:s.len≤maxLen) (hD:allD s=true) (hR:RS W rk s) (hTB:TB W) (hW:Below W.heap.size W w) (hWB:W.heap.size≤B) (hBw:B≤w.heap.size) (hB:Bu B b l w)
  (hq:isQ s d=false) (hlen:l.length+(kidsT d true (textsT s)).length+2≤140737488355328) :
  Calls Tryz.prog 132 #[.pointer (some ⟨b,0,none⟩), .agg #[.int .u8 5, .int .i64 n,S t, .slice rk s.len ck, .bool d]] w fun e w' => (∃v,e = .returned v)∧Bu B b (l++40::(kidsT d true (textsT s)++[41])) w' ∧ Kp B b w w' := by
 have HR:Hid (RS W rk s):=hR
 have HTB:Hid (TB W):=hTB
 have HW:Hid (Below W.heap.size W w):=hW
 have HB:Hid (Bu B b l w):=hB
 have HL:Hid (ListC2 N):=hL
 have HD:Hid (allD s=true):=hD
 have HQ:Hid _:=hq
 have hal:Below w.heap.size w (w.alloc (.cells #[.int .u8 5, .int .i64 n,S t, .slice rk s.len ck, .bool d] 32)):=(Below.refl _ w).alloc (Nat.le_refl _) _
 have Hal:Hid _:=hal
 have HQ0:Hid _:=World.alloc_heap_new w (.cells #[.int .u8 5, .int .i64 n,S t, .slice rk s.len ck, .bool d] 32)
 have hbl:=hB.le
 clear hR hTB hW hB hL hD hal hq
 go_enter Tryz.func132,Tryz.ntmps132
 go_wp2_with fail
 refine (isQuoted_any 5 n t s d rk ck _ hm ((HR.out.below HW.out).below Hal.out)).mono ?_
 rintro e w1 ⟨rfl,hb1⟩
 rw [HQ.out]
 have Hb1:Hid (Below w.heap.size w w1):=Hal.out.trans (hb1.mono Hal.out.size)
 have q1:=(hb1.block _ (by simp)).trans HQ0.out
 obtain ⟨z0,z1,z2,z3,z4,_⟩:=cells5 q1
 have zl:w.heap.size<w1.heap.size:=(Array.getElem?_eq_some_iff.1 q1).1
 clear hb1 q1
 go_wp2_with fail
 refine (HL.out 5 n t s d rk ck B b l W w1 hN hm HD.out HR.out HTB.out (HW.out.trans (Hb1.out.mono HW.out.size)) hWB (Nat.le_trans hBw Hb1.out.size) (HB.out.kept Hb1.out) hlen).mono ?_
 rintro e w2 ⟨⟨v,rfl⟩,hB2,hK2⟩
 have HB2:Hid _:=hB2
 have HK2:Hid (Kp B b w w2):=(Kp.below Hb1.out hBw).trans hK2
 clear hB2 hK2 z0 z1 z2 z3 z4
 go_wp2
 go_end0
 exact ⟨⟨_,rfl⟩,HB2.out,HK2.out⟩
theorem write_quote {N:Nat} (hC:∀M,M<N→WriteC M) (n:Int) (t:List UInt8) (k1 n1:Int) (t1:List UInt8) (s1:Fo) (d1:Bool) (rk:Option Addr) (ck B b:Nat) (l:List UInt8) (W w:World) (hN:s1.size+2≤N) (hi:isDat k1 n1 t1 s1 d1=true) (hD:allD s1=true) (hR:RS W rk (.cons 2 0 quoteB .nil false (.cons k1 n1 t1 s1 d1 .nil))) (hTB:TB W) (hW:Below W.heap.size W w) (hWB:W.heap.size≤B) (hBw:B≤w.heap.size) (hB:Bu B b l w)
  (hlen:l.length+1+(oneT k1 n1 t1 s1 d1 (textsT s1)).length≤140737488355328) :
  Calls Tryz.prog 132 #[.pointer (some ⟨b,0,none⟩), .agg #[.int .u8 5, .int .i64 n,S t, .slice rk 2 ck, .bool false]] w fun e w' => (∃v,e = .returned v)∧Bu B b (l++39::oneT k1 n1 t1 s1 d1 (textsT s1)) w' ∧ Kp B b w w' := by
 have HR:Hid (RS W rk (.cons 2 0 quoteB .nil false (.cons k1 n1 t1 s1 d1 .nil))):=hR
 have HTB:Hid (TB W):=hTB
 have HW:Hid (Below W.heap.size W w):=hW
 have HB:Hid (Bu B b l w):=hB
 have HC:Hid (∀M,M<N→WriteC M):=hC
 have HD:Hid (allD s1=true):=hD
 have Hi:Hid _:=hi
 have hal:Below w.heap.size w (w.alloc (.cells #[.int .u8 5, .int .i64 n,S t, .slice rk 2 ck, .bool false] 32)):=(Below.refl _ w).alloc (Nat.le_refl _) _
 have Hal:Hid _:=hal
 have HQ0:Hid _:=World.alloc_heap_new w (.cells #[.int .u8 5, .int .i64 n,S t, .slice rk 2 ck, .bool false] 32)
 have hbl:=hB.le
 have HQ:Hid (isQ (.cons 2 0 quoteB .nil false (.cons k1 n1 t1 s1 d1 .nil)) false=true):=by show _=_;simp [isQ,sameB,Fo.same]
 have hml:(Fo.cons 2 0 quoteB .nil false (.cons k1 n1 t1 s1 d1 .nil)).len≤maxLen:=by simp [Fo.len,maxLen]
 have Hml:Hid _:=hml
 obtain ⟨b0,o,hab,⟨_,_,⟨g0,g1,g2,g3,g4,g5⟩,⟨rk', ck', bk', ok', gk,gz,gs⟩,_⟩⟩:=hR
 have hra:=hab.resolve_left (by simp [Fo.len])
 subst hra
 have HRk:Hid (RS W rk' s1):=⟨bk', ok', gz,gs⟩
 clear hTB hW hB hC hD hal hi hml hab gz gs
 go_enter Tryz.func132,Tryz.ntmps132
 go_wp2_with fail
 have hiq:=isQuoted_any 5 n t (.cons 2 0 quoteB .nil false (.cons k1 n1 t1 s1 d1 .nil)) false (some ⟨b0,o,none⟩) ck _ Hml.out ((HR.out.below HW.out).below Hal.out)
 rw [HQ.out] at hiq
 refine Calls.mono hiq ?_
 clear hiq
 rintro e w1 ⟨rfl,hb1⟩
 have Hb1:Hid (Below w.heap.size w w1):=Hal.out.trans (hb1.mono Hal.out.size)
 have q1:=(hb1.block _ (by simp)).trans HQ0.out
 have HQ1:Hid _:=q1
 clear hb1 q1
 go_wp2_with fail
 refine (putB B b l 39 (by decide) _ (HB.out.kept Hb1.out) (by omega) (Nat.le_trans hBw Hb1.out.size)).mono ?_
 rintro e w2 ⟨rfl,hB2,hK2⟩
 have HB2:Hid (Bu B b (l++[39]) w2):=hB2
 have HK2:Hid (Kp B b w w2):=(Kp.below Hb1.out hBw).trans hK2
 have q2:=hK2.at HQ1.out (by omega)
 obtain ⟨z0,z1,z2,z3,z4,_⟩:=cells5 q2
 have zl:w.heap.size<w2.heap.size:=(Array.getElem?_eq_some_iff.1 q2).1
 have HWr:Hid (Below W.heap.size W w2):=HW.out.trans (HK2.out.1.mono hWB)
 have ec:∀o,w2.cell? ⟨b0,o,none⟩=W.cell? ⟨b0,o,none⟩:=fun o=>HWr.out.cell (p:=⟨b0,o,none⟩) g0
 have h1:=(ec _).trans g1
 have h2:=(ec _).trans g2
 have h3:=(ec _).trans g3
 have h4:=(ec _).trans g4
 have hk:=(ec _).trans gk
 have h0:b0<w2.heap.size:=Nat.lt_of_lt_of_le g0 HWr.out.size
 have hl1:(l++[39]).length=l.length+1:=by simp
 clear hB2 hK2 q2 ec g1 g2 g3 g4 gk
 go_wp2_with fail
 refine (HC.out s1.size (by omega) k1 n1 t1 s1 d1 rk' ck' B b (l++[39]) W w2 (Nat.le_refl _) g5 Hi.out HD.out HRk.out HTB.out HWr.out hWB (Nat.le_trans hBw HK2.out.1.size) HB2.out (by omega)).mono ?_
 rintro e w3 ⟨⟨v,rfl⟩,hB3,hK3⟩
 have HB3:Hid _:=hB3
 have HK3:Hid (Kp B b w w3):=HK2.out.trans hK3
 clear hB3 hK3 z0 z1 z2 z3 z4 h1 h2 h3 h4 hk
 go_wp2
 go_end0
 refine ⟨⟨_,rfl⟩,?_,HK3.out⟩
 have e2:=HB3.out
 rw [show l++39::oneT k1 n1 t1 s1 d1 (textsT s1)=l++[39]++oneT k1 n1 t1 s1 d1 (textsT s1) by simp]
 exact e2
theorem write_of {N:Nat} (h:∀M,M<N→WriteC M):WriteC N:=by
 intro k n t s d rk ck B b l W w hN hm hi hD hR hTB hW hWB hBw hB hlen
 rcases isDat_kind hi with rfl|rfl|rfl|rfl|rfl
 ·obtain ⟨hf,_⟩:=isDat_num hi
  simp only [fits,Bool.and_eq_true,decide_eq_true_eq] at hf
  exact write_1 n t s d rk ck B b l w hB (by omega) (by omega) (hTB.below hW) hlen hBw
 ·exact write_2 n t s d rk ck B b l w hB hlen hBw
 ·exact write_3 n t s d rk ck B b l w hB hlen hBw
 ·exact write_4 n t s d rk ck B b l w hB hlen hBw
 ·cases hq:isQ s d
  ·have e:oneT 5 n t s d (textsT s)=40::(kidsT d true (textsT s)++[41]):=by
    simp [oneT,hq]
   rw [e] at hlen ⊢
   simp only [List.length_cons,List.length_append,List.length_nil] at hlen
   exact write_list (rows_of h) n t s d rk ck B b l W w hN hm hD hR hTB hW hWB hBw hB hq (by omega)
  ·obtain ⟨rfl,k1,n1,t1,s1,d1,rfl⟩:=isQ_spec hq
   have e:oneT 5 n t (.cons 2 0 quoteB .nil false (.cons k1 n1 t1 s1 d1 .nil)) false (textsT (.cons 2 0 quoteB .nil false (.cons k1 n1 t1 s1 d1 .nil)))=39::oneT k1 n1 t1 s1 d1 (textsT s1):=by
    simp [oneT,hq,textsT]
   rw [e] at hlen ⊢
   simp only [List.length_cons] at hlen
   simp only [allD,Bool.and_eq_true] at hD
   exact write_quote h n t k1 n1 t1 s1 d1 rk ck B b l W w (by simp only [Fo.size] at hN;omega) hD.2.2.1 hD.2.2.2.1 hR hTB hW hWB hBw hB (by omega)
theorem write_all:∀N,WriteC N:=fun N=>by
 induction N using Nat.strongRecOn with
 | _ N ih=>exact write_of ih
theorem addr_add (g j:Nat):(⟨g,0,none⟩:Addr).add j=⟨g,j,none⟩:=by
 unfold Addr.add
 by_cases h:j=0
 ·subst h;rfl
 ·simp [h]
theorem Row.rd {w:World} {base:Nat}:∀{f:Fo} {cs:List Value} {bs:List Nat} {g o:Nat},Row w base f cs bs→g<w.heap.size→(∀j u,cs[j]?=some u→w.cell? ⟨g,o+j,none⟩=some u)→Rd w g o f
 | .nil,cs,bs,g,o,_,_,_=>trivial
 | .cons k n t s d r,cs,bs,g,o,⟨kv,kcs,kbs,rcs,rbs,hcs,_,ho,hs,hr⟩,hg,hc=>by
  subst hcs
  obtain ⟨ra,cap,rfl⟩:=own_slice ho
  have hlen:s.len≤maxLen:=by
   rcases ho.2 with ⟨_,h0⟩|⟨_,_,_,hv,_,_,h1,h2,_⟩
   ·rw [h0];exact Nat.zero_le _
   ·cases hv;exact Nat.le_trans h1 h2
  refine ⟨⟨hg,hc 0 _ rfl,hc 1 _ rfl,hc 2 _ rfl,hc 4 _ rfl,hlen⟩,?_,Row.rd hr hg (fun j u hj=>?_)⟩
  ·rcases ho.2 with ⟨_,h0⟩|⟨g', cap', cur,hv,_⟩
   ·refine ⟨ra,cap,0,0,hc 3 _ rfl, .inl h0,?_⟩
    cases s with
    | nil=>trivial
    | cons=>simp [Fo.len] at h0
   ·cases hv
    refine ⟨_,_,g', 0,hc 3 _ rfl, .inr rfl,Row.rd hs (ho.lt g' rfl).2 (fun j u hj=>?_)⟩
    have:=ho.cells rfl j u hj
    rw [addr_add] at this
    rw [Nat.zero_add]
    exact this
  ·have:=hc (j+5) u (by simpa using hj)
   rwa [show o+(j+5)=o+5+j by omega] at this
theorem Tree.rs {w:World} {base:Nat} {v:Value} {f:Fo} (h:Tree w base v f):∃ra cap,v = .slice ra f.len cap∧RS w ra f∧f.len≤maxLen:=by
 obtain ⟨cs,bs,ho,hr,_⟩:=h.ex
 obtain ⟨ra,cap,rfl⟩:=own_slice ho
 rcases ho.2 with ⟨_,h0⟩|⟨g', cap', cur,hv,_,_,h1,h2,_⟩
 ·refine ⟨ra,cap,rfl,⟨0,0, .inl h0,?_⟩,by rw [h0];exact Nat.zero_le _⟩
  cases f with
  | nil=>trivial
  | cons=>simp [Fo.len] at h0
 ·cases hv
  refine ⟨_,_,rfl,⟨g', 0, .inr rfl,Row.rd hr (ho.lt g' rfl).2 (fun j u hj=>?_)⟩,Nat.le_trans h1 h2⟩
  have:=ho.cells rfl j u hj
  rw [addr_add] at this
  rw [Nat.zero_add]
  exact this
theorem sym_len {t:List UInt8} (h:symB t=true):t.length≤32:=by
 obtain ⟨_,hn,hw,hE⟩:=sym_spec h
 unfold word at hw
 split at hw; · cases hw
 split at hw; · cases hw
 split at hw; · cases hw
 split at hw
 ·split at hw<;>cases hw
 ·split at hw
  ·cases hw
  ·rename_i hb
   simp only [bad,Bool.or_eq_true,decide_eq_true_eq,not_or] at hb
   omega
def sum3:List (List UInt8)→Nat
 | []=>0
 | x::r=>x.length+3+sum3 r
theorem kidsT_len (d:Bool):∀(b:Bool) (ts:List (List UInt8)),(kidsT d b ts).length≤sum3 ts
 | _,[]=>Nat.le_refl _
 | b,x::r=>by
  have:=kidsT_len d false r
  have h1:(if b then ([]:List UInt8) else [32]).length≤1:=by cases b<;>decide
  have h2:(if (d && r.isEmpty)=true then ([46,32]:List UInt8) else []).length≤2:=by split<;>decide
  simp only [kidsT,sum3,List.length_append]
  omega
theorem getD_len (ts:List (List UInt8)):∀i,(ts.getD i []).length≤sum3 ts:=by
 induction ts with
 | nil=>intro i;simp
 | cons x r ih =>
  intro i
  cases i with
  | zero=>simp only [List.getD_cons_zero,sum3];omega
  | succ i=>have:=ih i;simp only [List.getD_cons_succ,sum3];omega
theorem sum3_texts:∀(f:Fo),allD f=true→sum3 (textsT f)≤40*f.size
 | .nil,_=>Nat.le_refl _
 | .cons k n t s d r,h=>by
  simp only [allD,Bool.and_eq_true] at h
  obtain ⟨hi,hs,hr⟩:=h
  have ihs:=sum3_texts s hs
  have ihr:=sum3_texts r hr
  have ho:(oneT k n t s d (textsT s)).length+3≤40*s.size+40:=by
   rcases isDat_kind hi with rfl|rfl|rfl|rfl|rfl
   ·obtain ⟨hf,_⟩:=isDat_num hi
    simp only [fits,Bool.and_eq_true,decide_eq_true_eq] at hf
    have:=Lib.itoa_length_le n (by omega) (by omega)
    show (Lib.itoa n).length+3≤_
    omega
   ·have:=sym_len (isDat_sym hi).1
    show t.length+3≤_
    omega
   ·show 2+3≤_;omega
   ·show 2+3≤_;omega
   ·simp only [oneT,show ¬ (5:Int)=1 by decide,show ¬ (5:Int)=2 by decide,show ¬ (5:Int)=3 by decide,show ¬ (5:Int)=4 by decide,if_false]
    split
    ·have:=getD_len (textsT s) 1
     simp only [List.length_cons];omega
    ·have:=kidsT_len d true (textsT s)
     simp only [List.length_cons,List.length_append,List.length_nil];omega
  simp only [textsT,sum3,Fo.size]
  omega
theorem lines_len:∀(ts:List (List UInt8)),(linesT ts).length≤sum3 ts
 | []=>Nat.le_refl _
 | [x]=>by simp only [linesT,sum3];omega
 | x::y::r=>by
  have:=lines_len (y::r)
  simp only [linesT,sum3,List.length_append,List.length_cons] at this ⊢
  omega
theorem catch2_idle (b0 b1:Nat) (w:World) :
  CallsD Tryz.prog 91 #[.pointer (some ⟨b0,0,none⟩), .pointer (some ⟨b1,0,none⟩)] .returning w fun r u' w' => (∃v,r = .returned v)∧u' = .returning∧Below w.heap.size w w' := by
 refine callsD_of_wpS Tryz.func91 rfl fun c₀ cs hu=>?_
 simp only [Tryz.ntmps91,List.size_toArray,List.length_cons,List.length_nil,Nat.reduceAdd,Nat.reduceSub,Array.replicate_succ,Array.replicate_zero,List.push_toArray,List.append_toArray,List.nil_append,List.cons_append]
 apply wpS_seq
 apply wpS_region
 show wpOpsS _ _ _ [0,1,2,3,4,5,6,7] _ _ _
 refine wpOpsS_none rfl rfl rfl (by simp [recoverD,hu]) ?_
 refine wpOpsS_cons rfl rfl ?_
 simp [go_sem]
 refine (caught_nil w).mono ?_
 rintro e w1 ⟨rfl,hb1⟩
 simp only
 iterate 6 (refine wpOpsS_cons rfl rfl ?_;simp [go_sem])
 unfold wpOpsS
 simp only [Exit.thenS]
 refine wpS_of_wp ?_
 go_wp2
 refine ⟨rfl, .returning,by cases c₀;simp_all, .tuple #[],by simp [results,Tryz.results91,go_sem],⟨_,rfl⟩,rfl,hb1.alloc hb1.size _⟩
theorem catch2_fault (b0 b1:Nat) (e p:Int) (v0 v1:Value) (w:World) (h0:Boxed w b0 9 v0) (h1:Boxed w b1 37 v1) (n01:b0≠b1) :
  CallsD Tryz.prog 91 #[.pointer (some ⟨b0,0,none⟩), .pointer (some ⟨b1,0,none⟩)] (.panicking (fault e p)) w fun r u' w' =>
   ((∃v,r = .returned v)∧∃v,u' = .panicking [{ v,recovered:=true }])∧But3 b0 b1 b1 w w' ∧ Boxed w' b0 9 (.string ⟨#[]⟩)∧Boxed w' b1 37 (.int .i64 e):=by
 refine callsD_of_wpS Tryz.func91 rfl fun c₀ cs hu=>?_
 simp only [Tryz.ntmps91,List.size_toArray,List.length_cons,List.length_nil,Nat.reduceAdd,Nat.reduceSub,Array.replicate_succ,Array.replicate_zero,List.push_toArray,List.append_toArray,List.nil_append,List.cons_append]
 apply wpS_seq
 apply wpS_region
 show wpOpsS _ _ _ [0,1,2,3,4,5,6,7] _ _ _
 refine wpOpsS_some (v := .iface 141 (.agg #[.int .i64 e, .int .i64 p])) (cs' := { c₀ with mode := .panicking [{ v := .iface 141 (.agg #[.int .i64 e, .int .i64 p]),recovered:=true }] }::cs) rfl rfl rfl (by simp [recoverD,hu,fault]) ?_
 refine wpOpsS_cons rfl rfl ?_
 simp [go_sem]
 refine (caught_fault e p w).mono ?_
 rintro r w1 ⟨rfl,hb1⟩
 simp only
 iterate 6 (refine wpOpsS_cons rfl rfl ?_;simp [go_sem])
 unfold wpOpsS
 simp only [Exit.thenS]
 refine wpS_of_wp ?_
 have l0:=h0.lt
 have l1:=h1.lt
 have g0:Boxed w1 b0 9 v0:=(hb1.block _ l0).trans h0
 have g1:Boxed w1 b1 37 v1:=(hb1.block _ l1).trans h1
 have m0:=g0.lt
 have m1:=g1.lt
 have c0:=g0.cell
 have c1:=g1.cell
 have f0:=g0.frozen
 have f1:=g1.frozen
 have Hb1:Hid (Below w.heap.size w w1):=hb1
 have G0:Hid (Boxed w1 b0 9 v0):=g0
 have G1:Hid (Boxed w1 b1 37 v1):=g1
 have x0:¬ w1.heap.size=b0:=by omega
 have x1:¬ w1.heap.size=b1:=by omega
 clear g0 g1 h0 h1 hb1
 go_wp2_with fail
 go_region
 all_goals go_wp2
 refine ⟨rfl, .panicking [{ v := .iface 141 (.agg #[.int .i64 e, .int .i64 p]),recovered:=true }],rfl, .tuple #[],by simp [results,Tryz.results91,go_sem],⟨⟨_,rfl⟩,_,rfl⟩,?_,?_,?_⟩
 ·exact ((((But3.of_below Hb1.out).set (.inl rfl) _).set (.inr (.inl rfl)) _).alloc _).drew
 ·exact ((G0.out.set (.string ⟨#[]⟩)).other n01 _).alloc _
 ·exact ((G1.out.other n01.symm _).set (.int .i64 e)).alloc _
end Go.Proofs.YtkgnigloboajcaaGreatDoor
