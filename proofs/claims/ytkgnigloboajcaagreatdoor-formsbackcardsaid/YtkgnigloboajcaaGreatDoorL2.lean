/- IsSymbol, as the program has it and as the chapter has it: the same.; The contracts of the document's answer: its words, its numbers, its symbols.; The walk of LexSymbols.; The document's may: what is no list.; The document's may.; The document's may of lists.; The document's digits. -/
import Derived.Test.YtkgnigloboajcaaGreatDoorK41
import Derived.Lib.ItoaLen
import Derived.Lib.ItoaMem
set_option maxHeartbeats 4000000
set_option maxRecDepth 100000
namespace Go.Proofs.YtkgnigloboajcaaGreatDoor
theorem takeWhile_all (l:List UInt8) (h:l.all isW=true):l.takeWhile isW=l:=by
 induction l with
 | nil=>rfl
 | cons b r ih =>
  simp only [List.all_cons,Bool.and_eq_true] at h
  simp [h.1,ih h.2]
theorem all_takeWhile (l:List UInt8) (h:(l.takeWhile isW).length=l.length):l.all isW=true:=by
 induction l with
 | nil=>rfl
 | cons b r ih =>
  cases hb:isW b
  ·simp [hb] at h
  ·simp [hb] at h ⊢
   simpa using ih h
theorem isW_ne (b:UInt8) (h:isW b=true):¬ b.toNat=40∧¬ b.toNat=41∧¬ b.toNat=39∧¬ b.toNat=59∧¬ b.toNat=34∧33≤b.toNat:=by
 simp [isW,isWI] at h;omega
def symB5 (l:List UInt8):Bool:=begE l == 0 && ((begT l).kind == 6 && ((begS l:Nat):Int) == (l.length:Int))
def refSym (l:List UInt8):Bool := !l.isEmpty && (l.all isW && (wordE l == 0 && (word l).kind == 6))
theorem sym_ref (l:List UInt8):symB5 l=refSym l:=by
 cases l with
 | nil=>rfl
 | cons b r =>
  cases hw:isW b
  ·have h1:refSym (b::r)=false:=by simp [refSym,hw]
   rw [h1]
   simp only [symB5,begE,begT,begS]
   split; · rfl
   split; · rfl
   split; · rfl
   simp [hw]
  ·have hn:=isW_ne b hw
   have e1:begE (b::r)=wordE ((b::r).takeWhile isW):=by simp only [begE];rw [if_neg hn.1,if_neg hn.2.1,if_neg hn.2.2.1,hw];rfl
   have e2:begT (b::r)=word ((b::r).takeWhile isW):=by simp only [begT];rw [if_neg hn.1,if_neg hn.2.1,if_neg hn.2.2.1,hw];rfl
   have e3:begS (b::r)=((b::r).takeWhile isW).length:=by simp only [begS];rw [if_neg hn.1,if_neg hn.2.1,if_neg hn.2.2.1,hw];rfl
   unfold symB5 refSym
   rw [e1,e2,e3]
   cases ha:(b::r).all isW
   ·have:¬ (((b::r).takeWhile isW).length:Int)=((b::r).length:Int):=fun e=>by
     rw [all_takeWhile (b::r) (by omega)] at ha;cases ha
    rw [beq_eq_false_iff_ne.2 this];simp
   ·rw [takeWhile_all _ ha];simp
open Go.RowKit
theorem rplain_any (c:Int) (w:World) (h0:0≤c) (h1:c≤255) :
  Calls Tryz.prog 165 #[.int .u8 c] w fun e w' => e = .returned (.bool (isWI c))∧w' = w:=by
 go_enter Tryz.func165,Tryz.ntmps165
 go_wp2
 all_goals go_ret
 all_goals refine ⟨ret_bool ?_,rfl⟩
 all_goals (rw [Bool.eq_iff_iff];simp [isWI];omega)
theorem digit_any (c:Int) (w:World) (h0:0≤c) (h1:c≤255) :
  Calls Tryz.prog 184 #[.int .u8 c] w fun e w' => e = .returned (.bool (isDI c))∧w' = w:=by
 go_enter Tryz.func184,Tryz.ntmps184
 go_wp2
 all_goals go_ret
 all_goals exact ⟨ret_bool (by unfold isDI;rw [Bool.eq_iff_iff];simp;omega),rfl⟩
def rnN (l:List UInt8) (m:Bool):Int:=if 576460752303423488<val 0 l then 0 else if m then -(val 0 l:Int) else (val 0 l:Int)
def rnB (l:List UInt8) (m:Bool):Bool:=if 576460752303423488<val 0 l then false else if m then true else decide ((val 0 l:Int)<576460752303423488)
theorem ret_ib {a b:Int} {p q:Bool} (h:a=b) (hb:p=q):Ending.returned (.tuple #[.int .i64 a, .bool p]) = .returned (.tuple #[.int .i64 b, .bool q]):=by rw [h,hb]
theorem refNumber_any (s:ByteArray) (m:Bool) (w:World) (hs:s.size≤281474976710656) (hd:s.data.toList.all isD=true) :
  Calls Tryz.prog 185 #[.string s, .bool m] w fun e w' => e = .returned (.tuple #[.int .i64 (rnN s.data.toList m), .bool (rnB s.data.toList m)])∧w' = w:=by
 have HD:Hid _:=hd
 clear hd
 go_enter Tryz.func185,Tryz.ntmps185
 go_wp2
 go_loop [6,7] (fun n i=>∃(k a:Nat),k≤s.size∧i = .int .i64 k∧n = .int .i64 a∧a≤576460752303423488∧Hid (val 0 s.data.toList=val a (s.data.toList.drop k))) (fun _ i=>s.size-(intOf i).toNat)
 case atStart=>exact ⟨0,0,Nat.zero_le _,rfl,rfl,by omega,by show _=_;simp⟩
 case round =>
  obtain ⟨k,a,hk,rfl,rfl,ha,H⟩:=hrel
  by_cases hlt:k<s.size
  ·have hdr:=drop_step s k hlt
   have hdig:isD s[k]=true:=by
    refine List.all_eq_true.1 HD.out _ ?_
    have:s[k]∈s.data.toList.drop k:=by rw [hdr];simp
    exact List.mem_of_mem_drop this
   have hdg:=(isD_iff _).1 hdig
   have nx:Hid (val 0 s.data.toList=val (10*a+(s[k].toNat-48)) (s.data.toList.drop (k+1))):=by
    show _=_
    rw [H.out,hdr,val_cons]
   have Hge:=val_ge (s.data.toList.drop (k+1)) (10*a+(s[k].toNat-48))
   have HG:Hid (10*a+(s[k].toNat-48)≤val 0 s.data.toList):=by show _≤_;rw [nx.out];exact Hge
   clear hdr hdig Hge
   have hk48:(48:Int)≤s[k].toNat:=by omega
   have hk57:(s[k].toNat:Int)≤57:=by omega
   by_cases hbig:576460752303423488<10*a+(s[k].toNat-48)
   ·have hbig' : (576460752303423488:Int)<10*(a:Int)+((s[k].toNat:Int)-48):=by omega
    have hout:Hid (576460752303423488<val 0 s.data.toList):=by show _<_;have:=HG.out;omega
    go_wp2
    go_ret2
    refine ⟨ret_ib ?_ ?_,rfl⟩
    ·unfold rnN;rw [if_pos hout.out]
    ·unfold rnB;rw [if_pos hout.out]
   ·have hbig' : ¬ (576460752303423488:Int)<10*(a:Int)+((s[k].toNat:Int)-48):=by omega
    go_wp2
    go_round
    case rel=>exact ⟨k+1,10*a+(s[k].toNat-48),by omega,by go_num,congrArg (Value.int .i64) (by omega),by omega,nx⟩
    case measure=>simp [intOf];omega
  ·have nx:Hid (val 0 s.data.toList=a):=by
    show _=_
    rw [H.out,drop_all s k (by omega),val_nil]
   cases m
   ·go_wp2
    go_ret2
    refine ⟨ret_ib ?_ ?_,rfl⟩
    ·unfold rnN;rw [nx.out,if_neg (by omega)];simp only [Bool.false_eq_true,if_false]
    ·unfold rnB;rw [nx.out,if_neg (by omega)];simp only [Bool.false_eq_true,if_false]
   ·go_wp2
    go_ret2
    refine ⟨ret_ib ?_ ?_,rfl⟩
    ·unfold rnN;rw [nx.out,if_neg (by omega)];simp only [if_true]
    ·unfold rnB;rw [nx.out,if_neg (by omega)];simp only [if_true]
theorem num_ref (l:List UInt8):fits (num l)=rnB (unsign l) (neg l)∧(fits (num l)=true→num l=rnN (unsign l) (neg l)):=by
 unfold num rnB rnN
 generalize val 0 (unsign l)=v
 cases neg l
 ·simp only [Bool.false_eq_true,if_false]
  by_cases h:576460752303423488<v
  ·rw [if_pos h,if_pos h,fits_no _ (by omega)];simp
  ·rw [if_neg h,if_neg h]
   refine ⟨?_,fun _=>rfl⟩
   rw [Bool.eq_iff_iff,fits_iff];simp;omega
 ·simp only [if_true]
  by_cases h:576460752303423488<v
  ·rw [if_pos h,if_pos h,fits_no _ (by omega)];simp
  ·rw [if_neg h,if_neg h]
   refine ⟨?_,fun _=>rfl⟩
   rw [Bool.eq_iff_iff,fits_iff];simp;omega
theorem rest_facts (s d:ByteArray) (h:d.data.toList=unsign s.data.toList):d.size≤s.size∧isNum s.data.toList=(decide ((0:Int)<(d.size:Int)) && d.data.toList.all isD):=by
 refine ⟨by rw [size_len d,size_len s,h];exact unsign_le _,?_⟩
 unfold isNum
 rw [←h,Bool.and_comm]
 congr 1
 rw [size_len d]
 cases d.data.toList with
 | nil=>rfl
 | cons a r=>simp
theorem refWord_any (s:ByteArray) (w:World) (hs:s.size≤281474976710656) (h0:0<s.size) :
  Calls Tryz.prog 166 #[.string s] w fun e w' => e = .returned (.tuple #[encT (word s.data.toList), .int .i64 (wordE s.data.toList)])∧Below w.heap.size w w' := by
 by_cases h1:s.data.toList=[46]
 ·have e1:=eq_beq h1
  have HT:Hid (word s.data.toList=tk 4):=by show _=_;simp [word,h1]
  have HN:Hid (wordE s.data.toList=0):=by show _=_;simp [wordE,h1]
  clear h1
  go_enter Tryz.func166,Tryz.ntmps166
  go_wp2_with fail
  refine bodyPost_ret (v := .tuple #[.agg #[.int .u8 4, .string ⟨#[]⟩, .int .i64 0, .int .i64 0], .int .i64 0]) (by simp [results,Tryz.results166,go_sem]) rfl ⟨?_,?_⟩
  ·rw [HT.out,HN.out];rfl
  ·exact (Below.refl _ w).alloc (Nat.le_refl _) _
 have e1:=ne_beq h1
 by_cases h2:s.data.toList=[35,116]
 ·have e2:=eq_beq h2
  have HT:Hid (word s.data.toList=tk 8):=by show _=_;simp [word,h2]
  have HN:Hid (wordE s.data.toList=0):=by show _=_;simp [wordE,h2]
  clear h1 h2
  go_enter Tryz.func166,Tryz.ntmps166
  go_wp2_with fail
  refine bodyPost_ret (v := .tuple #[.agg #[.int .u8 8, .string ⟨#[]⟩, .int .i64 0, .int .i64 0], .int .i64 0]) (by simp [results,Tryz.results166,go_sem]) rfl ⟨?_,?_⟩
  ·rw [HT.out,HN.out];rfl
  ·exact (Below.refl _ w).alloc (Nat.le_refl _) _
 have e2:=ne_beq h2
 by_cases h3:s.data.toList=[35,102]
 ·have e3:=eq_beq h3
  have HT:Hid (word s.data.toList=tk 7):=by show _=_;simp [word,h3]
  have HN:Hid (wordE s.data.toList=0):=by show _=_;simp [wordE,h3]
  clear h1 h2 h3
  go_enter Tryz.func166,Tryz.ntmps166
  go_wp2_with fail
  refine bodyPost_ret (v := .tuple #[.agg #[.int .u8 7, .string ⟨#[]⟩, .int .i64 0, .int .i64 0], .int .i64 0]) (by simp [results,Tryz.results166,go_sem]) rfl ⟨?_,?_⟩
  ·rw [HT.out,HN.out];rfl
  ·exact (Below.refl _ w).alloc (Nat.le_refl _) _
 have e3:=ne_beq h3
 have H1:Hid _:=h1
 have H2:Hid _:=h2
 have H3:Hid _:=h3
 clear h1 h2 h3
 have hb0:=byte_le s 0 h0
 have hd0:=drop_step s 0 h0
 rw [List.drop_zero] at hd0
 have HD0:Hid _:=hd0
 clear hd0
 cases hm:((s[0].toNat:Int) == 45)
 ·have hneg:Hid (neg s.data.toList=false):=by show _=_;rw [HD0.out];simp only [neg];rw [beq_eq_false_iff_ne] at hm ⊢; omega
  have hun:Hid (unsign s.data.toList=s.data.toList):=by
   show _=_
   rw [beq_eq_false_iff_ne] at hm
   rw [HD0.out];simp only [unsign];rw [if_neg (by omega)]
  have HDL:=hun.out.symm
  obtain ⟨hds,hnum⟩:=rest_facts s s HDL
  have Hnum:Hid _:=hnum
  have HDLh:Hid _:=HDL
  clear HDL hnum
  go_enter Tryz.func166,Tryz.ntmps166
  go_wp2_with fail
  go_loop [6,7] (fun b i=>∃(k:Nat) (p:Bool),k≤s.size∧i = .int .i64 k∧b = .bool p∧Hid (isNum s.data.toList=(p && (s.data.toList.drop k).all isD))) (fun _ i=>s.size-(intOf i).toNat)
  case atStart=>exact ⟨0,_,Nat.zero_le _,rfl,rfl,by show _=_;rw [Hnum.out,List.drop_zero,decide_eq_true (by omega)]⟩
  case round =>
   obtain ⟨k,p,hk,rfl,rfl,H⟩:=hrel
   by_cases hlt:k<s.size
   ·have hdr:Hid _:=drop_step s k hlt
    have hb:=byte_le s k hlt
    cases p
    ·go_wp2_with fail
     go_round
     case rel=>exact ⟨k+1,false,by omega,by go_num,rfl,by show _=_;rw [H.out];simp⟩
     case measure=>simp [intOf];omega
    ·go_wp2_with (go_at_call 184;refine (digit_any _ _ (by omega) (by omega)).mono ?_;rintro e w' ⟨rfl,rfl⟩)
     go_round
     case rel=>exact ⟨k+1,_,by omega,by go_num,rfl,by show _=_;rw [H.out,hdr.out];simp [isD]⟩
     case measure=>simp [intOf];omega
   ·have Hp:Hid (isNum s.data.toList=p):=by show _=_;rw [H.out,drop_all s k (by omega)];simp
    cases p
    ·have hbn:Hid (begNum s.data.toList=isDI s[0].toNat):=by show _=_;unfold begNum;rw [hun.out,HD0.out];rfl
     have hha:Hid (hash s.data.toList=((s[0].toNat:Int) == 35)):=by show _=_;rw [HD0.out];simp only [hash];rw [Bool.eq_iff_iff,beq_iff_eq,beq_iff_eq];omega
     cases h6:isDI s[0].toNat
     ·cases h5:((s[0].toNat:Int) == 35)
      ·by_cases h7:32<s.size
       ·have hbad:bad s.data.toList=true:=by unfold bad;rw [←size_len,decide_eq_true h7];simp
        have HT:Hid (word s.data.toList=tk 0):=by show _=_;unfold word;rw [if_neg H1.out,if_neg H2.out,if_neg H3.out,Hp.out,hbad];rfl
        have HN:Hid (wordE s.data.toList=51):=by show _=_;unfold wordE;rw [if_neg H1.out,if_neg H2.out,if_neg H3.out,Hp.out,hbad];rfl
        clear hbad
        go_wp2_with (go_at_call 184;refine (digit_any _ _ (by omega) (by omega)).mono ?_;rintro e w' ⟨rfl,rfl⟩)
        refine bodyPost_ret (v := .tuple #[.agg #[.int .u8 0, .string ⟨#[]⟩, .int .i64 0, .int .i64 0], .int .i64 51]) (by simp [results,Tryz.results166,go_sem]) rfl ⟨?_,?_⟩
        ·rw [HT.out,HN.out];rfl
        ·exact (Below.refl _ _).alloc (Nat.le_refl _) _
       ·have hbad:bad s.data.toList=false:=by unfold bad;rw [←size_len,hbn.out,hha.out,h5,h6,decide_eq_false h7];rfl
        have HT:Hid (word s.data.toList=⟨6,s.data.toList,0,0⟩):=by show _=_;unfold word;rw [if_neg H1.out,if_neg H2.out,if_neg H3.out,Hp.out,hbad];rfl
        have HN:Hid (wordE s.data.toList=0):=by show _=_;unfold wordE;rw [if_neg H1.out,if_neg H2.out,if_neg H3.out,Hp.out,hbad];rfl
        clear hbad
        go_wp2_with (go_at_call 184;refine (digit_any _ _ (by omega) (by omega)).mono ?_;rintro e w' ⟨rfl,rfl⟩)
        refine bodyPost_ret (v := .tuple #[.agg #[.int .u8 6, .string s, .int .i64 0, .int .i64 0], .int .i64 0]) (by simp [results,Tryz.results166,go_sem]) rfl ⟨?_,?_⟩
        ·rw [HT.out,HN.out];rfl
        ·exact (Below.refl _ _).alloc (Nat.le_refl _) _
      ·have hbad:bad s.data.toList=true:=by unfold bad;rw [hha.out,h5];simp
       have HT:Hid (word s.data.toList=tk 0):=by show _=_;unfold word;rw [if_neg H1.out,if_neg H2.out,if_neg H3.out,Hp.out,hbad];rfl
       have HN:Hid (wordE s.data.toList=51):=by show _=_;unfold wordE;rw [if_neg H1.out,if_neg H2.out,if_neg H3.out,Hp.out,hbad];rfl
       clear hbad
       go_wp2_with (go_at_call 184;refine (digit_any _ _ (by omega) (by omega)).mono ?_;rintro e w' ⟨rfl,rfl⟩)
       refine bodyPost_ret (v := .tuple #[.agg #[.int .u8 0, .string ⟨#[]⟩, .int .i64 0, .int .i64 0], .int .i64 51]) (by simp [results,Tryz.results166,go_sem]) rfl ⟨?_,?_⟩
       ·rw [HT.out,HN.out];rfl
       ·exact (Below.refl _ _).alloc (Nat.le_refl _) _
     ·have hbad:bad s.data.toList=true:=by unfold bad;rw [hbn.out,h6];simp
      have HT:Hid (word s.data.toList=tk 0):=by show _=_;unfold word;rw [if_neg H1.out,if_neg H2.out,if_neg H3.out,Hp.out,hbad];rfl
      have HN:Hid (wordE s.data.toList=51):=by show _=_;unfold wordE;rw [if_neg H1.out,if_neg H2.out,if_neg H3.out,Hp.out,hbad];rfl
      clear hbad
      go_wp2_with (go_at_call 184;refine (digit_any _ _ (by omega) (by omega)).mono ?_;rintro e w' ⟨rfl,rfl⟩)
      refine bodyPost_ret (v := .tuple #[.agg #[.int .u8 0, .string ⟨#[]⟩, .int .i64 0, .int .i64 0], .int .i64 51]) (by simp [results,Tryz.results166,go_sem]) rfl ⟨?_,?_⟩
      ·rw [HT.out,HN.out];rfl
      ·exact (Below.refl _ _).alloc (Nat.le_refl _) _
    ·have Hal:Hid (s.data.toList.all isD=true):=by show _=_;have:=Hp.out;rw [Hnum.out,Bool.and_eq_true] at this;exact this.2
     go_wp2_with fail
     refine (refNumber_any s false _ (by omega) Hal.out).mono ?_
     rintro e w' ⟨rfl,rfl⟩
     have hr:=num_ref s.data.toList
     rw [hneg.out, ←HDLh.out] at hr
     cases hfit:fits (num s.data.toList)
     ·rw [hfit] at hr
      rw [←hr.1]
      have HT:Hid (word s.data.toList=tk 0):=by show _=_;unfold word;rw [if_neg H1.out,if_neg H2.out,if_neg H3.out,Hp.out,if_pos rfl,hfit];rfl
      have HN:Hid (wordE s.data.toList=52):=by show _=_;unfold wordE;rw [if_neg H1.out,if_neg H2.out,if_neg H3.out,Hp.out,if_pos rfl,hfit];rfl
      clear hr hfit
      go_wp2
      refine bodyPost_ret (v := .tuple #[.agg #[.int .u8 0, .string ⟨#[]⟩, .int .i64 0, .int .i64 0], .int .i64 52]) (by simp [results,Tryz.results166,go_sem]) rfl ⟨?_,?_⟩
      ·rw [HT.out,HN.out];rfl
      ·exact (Below.refl _ w).alloc (Nat.le_refl _) _
     ·rw [hfit] at hr
      rw [←hr.1, ←hr.2 rfl]
      have HT:Hid (word s.data.toList=⟨5,[],num s.data.toList,0⟩):=by show _=_;unfold word;rw [if_neg H1.out,if_neg H2.out,if_neg H3.out,Hp.out,if_pos rfl,hfit];rfl
      have HN:Hid (wordE s.data.toList=0):=by show _=_;unfold wordE;rw [if_neg H1.out,if_neg H2.out,if_neg H3.out,Hp.out,if_pos rfl,hfit];rfl
      clear hr hfit
      generalize num s.data.toList=nv at *
      go_wp2
      refine bodyPost_ret (v := .tuple #[.agg #[.int .u8 5, .string ⟨#[]⟩, .int .i64 nv, .int .i64 0], .int .i64 0]) (by simp [results,Tryz.results166,go_sem]) rfl ⟨?_,?_⟩
      ·rw [HT.out,HN.out];rfl
      ·exact (Below.refl _ w).alloc (Nat.le_refl _) _
 ·have hneg:Hid (neg s.data.toList=true):=by show _=_;rw [HD0.out];simp only [neg];rw [beq_iff_eq] at hm ⊢; omega
  have hun:Hid (unsign s.data.toList=s.data.toList.drop 1):=by
   show _=_
   rw [beq_iff_eq] at hm
   rw [HD0.out];simp only [unsign];rw [if_pos (by omega)];rfl
  have HDL:(s.extract 1 s.size).data.toList=unsign s.data.toList:=by
   rw [hun.out,Lib.extract_data,List.take_of_length_le (by rw [List.length_drop, ←size_len];exact Nat.le_refl _)]
  have hxs:(s.extract 1 s.size).size=s.size-1:=by rw [size_len,HDL,hun.out,List.length_drop, ←size_len]
  obtain ⟨hds,hnum⟩:=rest_facts s (s.extract 1 s.size) HDL
  have hdec:decide ((0:Int)<((s.extract 1 s.size).size:Int))=decide (0<s.size-1):=by rw [hxs,Bool.eq_iff_iff];simp only [decide_eq_true_eq];omega
  rw [hdec] at hnum
  have Hxs:Hid _:=hxs
  clear hdec hxs hds
  have Hnum:Hid _:=hnum
  have HDLh:Hid _:=HDL
  clear HDL hnum
  go_enter Tryz.func166,Tryz.ntmps166
  go_wp2_with fail
  go_loop [6,7] (fun b i=>∃(k:Nat) (p:Bool),k≤s.size-1∧i = .int .i64 k∧b = .bool p∧Hid (isNum s.data.toList=(p && ((s.extract 1 s.size).data.toList.drop k).all isD))) (fun _ i=>s.size-1-(intOf i).toNat)
  case atStart=>exact ⟨0,_,Nat.zero_le _,rfl,rfl,by show _=_;rw [Hnum.out,List.drop_zero]⟩
  case round =>
   obtain ⟨k,p,hk,rfl,rfl,H⟩:=hrel
   by_cases hlt:k<s.size-1
   ·have hltd:k<(s.extract 1 s.size).size:=by rw [Hxs.out];exact hlt
    have hdr:Hid _:=drop_step (s.extract 1 s.size) k hltd
    have hb:=byte_le (s.extract 1 s.size) k hltd
    cases p
    ·go_wp2_with fail
     go_round
     case rel=>exact ⟨k+1,false,by omega,by go_num,rfl,by show _=_;rw [H.out];simp⟩
     case measure=>simp [intOf];omega
    ·go_wp2_with (go_at_call 184;refine (digit_any _ _ (by omega) (by omega)).mono ?_;rintro e w' ⟨rfl,rfl⟩)
     go_round
     case rel=>exact ⟨k+1,_,by omega,by go_num,rfl,by show _=_;rw [H.out,hdr.out];simp [isD]⟩
     case measure=>simp [intOf];omega
   ·have Hp:Hid (isNum s.data.toList=p):=by show _=_;rw [H.out,drop_all (s.extract 1 s.size) k (by rw [Hxs.out];omega)];simp
    cases p
    ·have h6:isDI s[0].toNat=false:=by rw [beq_iff_eq] at hm;rw [hm];rfl
     have h5:((s[0].toNat:Int) == 35)=false:=by rw [beq_iff_eq] at hm;rw [hm];rfl
     have hha:Hid (hash s.data.toList=false):=by show _=_;rw [HD0.out];simp only [hash];rw [beq_eq_false_iff_ne] at h5 ⊢; omega
     by_cases hz:1<s.size
     ·have hb1:=byte_le s 1 hz
      have hbn:Hid (begNum s.data.toList=isDI s[1].toNat):=by show _=_;unfold begNum;rw [hun.out,drop_step s 1 hz];rfl
      cases h8:isDI s[1].toNat
      ·by_cases h7:32<s.size
       ·have hbad:bad s.data.toList=true:=by unfold bad;rw [←size_len,decide_eq_true h7];simp
        have HT:Hid (word s.data.toList=tk 0):=by show _=_;unfold word;rw [if_neg H1.out,if_neg H2.out,if_neg H3.out,Hp.out,hbad];rfl
        have HN:Hid (wordE s.data.toList=51):=by show _=_;unfold wordE;rw [if_neg H1.out,if_neg H2.out,if_neg H3.out,Hp.out,hbad];rfl
        clear hbad
        go_wp2_with (go_at_call 184;refine (digit_any _ _ (by omega) (by omega)).mono ?_;rintro e w' ⟨rfl,rfl⟩)
        refine bodyPost_ret (v := .tuple #[.agg #[.int .u8 0, .string ⟨#[]⟩, .int .i64 0, .int .i64 0], .int .i64 51]) (by simp [results,Tryz.results166,go_sem]) rfl ⟨?_,?_⟩
        ·rw [HT.out,HN.out];rfl
        ·exact (Below.refl _ _).alloc (Nat.le_refl _) _
       ·have hbad:bad s.data.toList=false:=by unfold bad;rw [←size_len,hbn.out,hha.out,h8,decide_eq_false h7];rfl
        have HT:Hid (word s.data.toList=⟨6,s.data.toList,0,0⟩):=by show _=_;unfold word;rw [if_neg H1.out,if_neg H2.out,if_neg H3.out,Hp.out,hbad];rfl
        have HN:Hid (wordE s.data.toList=0):=by show _=_;unfold wordE;rw [if_neg H1.out,if_neg H2.out,if_neg H3.out,Hp.out,hbad];rfl
        clear hbad
        go_wp2_with (go_at_call 184;refine (digit_any _ _ (by omega) (by omega)).mono ?_;rintro e w' ⟨rfl,rfl⟩)
        refine bodyPost_ret (v := .tuple #[.agg #[.int .u8 6, .string s, .int .i64 0, .int .i64 0], .int .i64 0]) (by simp [results,Tryz.results166,go_sem]) rfl ⟨?_,?_⟩
        ·rw [HT.out,HN.out];rfl
        ·exact (Below.refl _ _).alloc (Nat.le_refl _) _
      ·have hbad:bad s.data.toList=true:=by unfold bad;rw [hbn.out,h8];simp
       have HT:Hid (word s.data.toList=tk 0):=by show _=_;unfold word;rw [if_neg H1.out,if_neg H2.out,if_neg H3.out,Hp.out,hbad];rfl
       have HN:Hid (wordE s.data.toList=51):=by show _=_;unfold wordE;rw [if_neg H1.out,if_neg H2.out,if_neg H3.out,Hp.out,hbad];rfl
       clear hbad
       go_wp2_with (go_at_call 184;refine (digit_any _ _ (by omega) (by omega)).mono ?_;rintro e w' ⟨rfl,rfl⟩)
       refine bodyPost_ret (v := .tuple #[.agg #[.int .u8 0, .string ⟨#[]⟩, .int .i64 0, .int .i64 0], .int .i64 51]) (by simp [results,Tryz.results166,go_sem]) rfl ⟨?_,?_⟩
       ·rw [HT.out,HN.out];rfl
       ·exact (Below.refl _ _).alloc (Nat.le_refl _) _
     ·have hbn:Hid (begNum s.data.toList=false):=by show _=_;unfold begNum;rw [hun.out,drop_all s 1 (by omega)]
      have hbad:bad s.data.toList=false:=by unfold bad;rw [←size_len,hbn.out,hha.out,decide_eq_false (by omega)];rfl
      have HT:Hid (word s.data.toList=⟨6,s.data.toList,0,0⟩):=by show _=_;unfold word;rw [if_neg H1.out,if_neg H2.out,if_neg H3.out,Hp.out,hbad];rfl
      have HN:Hid (wordE s.data.toList=0):=by show _=_;unfold wordE;rw [if_neg H1.out,if_neg H2.out,if_neg H3.out,Hp.out,hbad];rfl
      clear hbad
      go_wp2_with (go_at_call 184;refine (digit_any _ _ (by omega) (by omega)).mono ?_;rintro e w' ⟨rfl,rfl⟩)
      refine bodyPost_ret (v := .tuple #[.agg #[.int .u8 6, .string s, .int .i64 0, .int .i64 0], .int .i64 0]) (by simp [results,Tryz.results166,go_sem]) rfl ⟨?_,?_⟩
      ·rw [HT.out,HN.out];rfl
      ·exact (Below.refl _ _).alloc (Nat.le_refl _) _
    ·have Hal:Hid ((s.extract 1 s.size).data.toList.all isD=true):=by show _=_;have:=Hp.out;rw [Hnum.out,Bool.and_eq_true] at this;exact this.2
     go_wp2_with fail
     refine (refNumber_any (s.extract 1 s.size) true _ (by rw [Hxs.out];omega) Hal.out).mono ?_
     rintro e w' ⟨rfl,rfl⟩
     have hr:=num_ref s.data.toList
     rw [hneg.out, ←HDLh.out] at hr
     cases hfit:fits (num s.data.toList)
     ·rw [hfit] at hr
      rw [←hr.1]
      have HT:Hid (word s.data.toList=tk 0):=by show _=_;unfold word;rw [if_neg H1.out,if_neg H2.out,if_neg H3.out,Hp.out,if_pos rfl,hfit];rfl
      have HN:Hid (wordE s.data.toList=52):=by show _=_;unfold wordE;rw [if_neg H1.out,if_neg H2.out,if_neg H3.out,Hp.out,if_pos rfl,hfit];rfl
      clear hr hfit
      go_wp2
      refine bodyPost_ret (v := .tuple #[.agg #[.int .u8 0, .string ⟨#[]⟩, .int .i64 0, .int .i64 0], .int .i64 52]) (by simp [results,Tryz.results166,go_sem]) rfl ⟨?_,?_⟩
      ·rw [HT.out,HN.out];rfl
      ·exact (Below.refl _ w).alloc (Nat.le_refl _) _
     ·rw [hfit] at hr
      rw [←hr.1, ←hr.2 rfl]
      have HT:Hid (word s.data.toList=⟨5,[],num s.data.toList,0⟩):=by show _=_;unfold word;rw [if_neg H1.out,if_neg H2.out,if_neg H3.out,Hp.out,if_pos rfl,hfit];rfl
      have HN:Hid (wordE s.data.toList=0):=by show _=_;unfold wordE;rw [if_neg H1.out,if_neg H2.out,if_neg H3.out,Hp.out,if_pos rfl,hfit];rfl
      clear hr hfit
      generalize num s.data.toList=nv at *
      go_wp2
      refine bodyPost_ret (v := .tuple #[.agg #[.int .u8 5, .string ⟨#[]⟩, .int .i64 nv, .int .i64 0], .int .i64 0]) (by simp [results,Tryz.results166,go_sem]) rfl ⟨?_,?_⟩
      ·rw [HT.out,HN.out];rfl
      ·exact (Below.refl _ w).alloc (Nat.le_refl _) _
theorem refIsSymbol_any (s:ByteArray) (w:World) (hs:s.size≤281474976710656) :
  Calls Tryz.prog 134 #[.string s] w fun e w' => e = .returned (.bool (refSym s.data.toList))∧Below w.heap.size w w' := by
 have hmx:s.size≤9223372036854775807:=by omega
 by_cases h0:s.size=0
 ·have he:s.toList.isEmpty=true:=by rw [Lib.toList_data,List.isEmpty_iff_length_eq_zero, ←size_len];exact h0
  have hl:Hid (refSym s.data.toList=false):=by
   show _=_
   have:s.data.toList=[]:=by rw [←List.length_eq_zero_iff, ←size_len];exact h0
   rw [this];rfl
  clear h0
  go_enter Tryz.func134,Tryz.ntmps134
  go_wp2_with fail
  go_ret
  exact ⟨ret_bool (by rw [hl.out]),Below.refl _ _⟩
 have hlt0:0<s.size:=by omega
 have hne:Hid (s.data.toList.isEmpty=false):=by
  show _=_
  rw [Bool.eq_false_iff];intro h;rw [List.isEmpty_iff_length_eq_zero, ←size_len] at h;exact h0 h
 have he:s.toList.isEmpty=false:=by rw [Lib.toList_data];exact hne.out
 clear h0
 go_enter Tryz.func134,Tryz.ntmps134
 go_wp2_with fail
 go_loop [3] (fun i=>∃k:Nat,k≤s.size∧i = .int .i64 k∧Hid (s.data.toList.all isW=(s.data.toList.drop k).all isW)) (fun i=>s.size-(intOf i).toNat)
 case atStart=>exact ⟨0,Nat.zero_le _,rfl,by show _=_;simp⟩
 case round =>
  obtain ⟨k,hk,rfl,H⟩:=hrel
  by_cases hlt:k<s.size
  ·have hdr:Hid _:=drop_step s k hlt
   have hb:=byte_le s k hlt
   cases hc:isWI s[k].toNat
   ·have nx:Hid (refSym s.data.toList=false):=by
     show _=_
     unfold refSym;rw [H.out,hdr.out];simp [isW,hc]
    go_wp2_with (go_at_call 165;refine (rplain_any _ _ (by omega) (by omega)).mono ?_;rintro e w' ⟨rfl,rfl⟩)
    go_ret
    exact ⟨ret_bool (by rw [nx.out]),Below.refl _ _⟩
   ·have nx:Hid (s.data.toList.all isW=(s.data.toList.drop (k+1)).all isW):=by
     show _=_
     rw [H.out,hdr.out];simp [isW,hc]
    go_wp2_with (go_at_call 165;refine (rplain_any _ _ (by omega) (by omega)).mono ?_;rintro e w' ⟨rfl,rfl⟩)
    go_round
    case rel=>exact ⟨k+1,by omega,by go_num,nx⟩
    case measure=>simp [intOf];omega
  ·have nx:Hid (refSym s.data.toList=(wordE s.data.toList == 0 && (word s.data.toList).kind == 6)):=by
    show _=_
    unfold refSym;rw [H.out,drop_all s k (by omega),hne.out];simp
   go_wp2_with fail
   refine (refWord_any s _ hs hlt0).mono ?_
   rintro e w1 ⟨rfl,hb1⟩
   rw [encT]
   cases h1:(wordE s.data.toList == 0)
   all_goals cases h2:((word s.data.toList).kind == 6)
   all_goals
    go_wp2
    go_ret
    refine ⟨ret_bool (by rw [nx.out];simp [h1,h2]),hb1.alloc hb1.size _⟩
theorem isDat_more {k n:Int} {t:List UInt8} {k1 n1:Int} {t1:List UInt8} {s1:Fo} {d1:Bool} {r:Fo} {d:Bool} (hk:k≠5):isDat k n t (.cons k1 n1 t1 s1 d1 r) d=false:=by
 unfold isDat
 split
 ·simp [sameB,Fo.same]
 split
 ·simp [sameB,Fo.same]
 split
 ·simp [sameB,Fo.same]
 ·first|rfl|(rw [if_neg hk])
theorem may_kids (k n:Int) (t:List UInt8) (l:Nat) (hl:l+1≤maxLen) (d:Bool) (rk:Option Addr) (ck:Nat) (w:World) (hk:k≠5) :
  Calls Tryz.prog 96 #[.agg #[.int .u8 k, .int .i64 n,S t, .slice rk (l+1) ck, .bool d]] w fun e w' => e = .returned (.bool false)∧Below w.heap.size w w' := by
 unfold maxLen at hl
 have Hal:Hid (Below w.heap.size w (w.alloc (.cells #[.int .u8 k, .int .i64 n,S t, .slice rk (l+1) ck, .bool d] 32))):=(Below.refl _ w).alloc (Nat.le_refl _) _
 have b5:(k == 5)=false:=beq_eq_false_iff_ne.2 hk
 have b5' : (k != 5)=true:=by simp [bne,b5]
 have hl0:(0:Int)<(l:Int)+1:=by omega
 clear hk
 cases b1:(k == 1)<;>cases b2:(k == 2)<;>cases bn:(n == 0)<;>by_cases ht:t=[]
 all_goals have c1:(k != 1) = !(k == 1):=rfl
 all_goals have c2:(k != 2) = !(k == 2):=rfl
 all_goals have c3:(n != 0) = !(n == 0):=rfl
 all_goals rw [b1] at c1
 all_goals rw [b2] at c2
 all_goals rw [bn] at c3
 all_goals simp only [Bool.not_true,Bool.not_false] at c1 c2 c3
 all_goals (try subst ht)
 all_goals go_enter Tryz.func96,Tryz.ntmps96
 all_goals go_wp2
 all_goals go_ret
 all_goals exact ⟨rfl,Hal.out⟩
theorem may_dot (k n:Int) (t:List UInt8) (rk:Option Addr) (ck:Nat) (w:World) (hk:k≠5) :
  Calls Tryz.prog 96 #[.agg #[.int .u8 k, .int .i64 n,S t, .slice rk 0 ck, .bool true]] w fun e w' => e = .returned (.bool false)∧Below w.heap.size w w' := by
 have Hal:Hid (Below w.heap.size w (w.alloc (.cells #[.int .u8 k, .int .i64 n,S t, .slice rk 0 ck, .bool true] 32))):=(Below.refl _ w).alloc (Nat.le_refl _) _
 have b5:(k == 5)=false:=beq_eq_false_iff_ne.2 hk
 have b5' : (k != 5)=true:=by simp [bne,b5]
 clear hk
 cases b1:(k == 1)<;>cases b2:(k == 2)<;>cases bn:(n == 0)<;>by_cases ht:t=[]
 all_goals have c1:(k != 1) = !(k == 1):=rfl
 all_goals have c2:(k != 2) = !(k == 2):=rfl
 all_goals have c3:(n != 0) = !(n == 0):=rfl
 all_goals rw [b1] at c1
 all_goals rw [b2] at c2
 all_goals rw [bn] at c3
 all_goals simp only [Bool.not_true,Bool.not_false] at c1 c2 c3
 all_goals (try subst ht)
 all_goals go_enter Tryz.func96,Tryz.ntmps96
 all_goals go_wp2
 all_goals go_ret
 all_goals exact ⟨rfl,Hal.out⟩
theorem may_num (n:Int) (t:List UInt8) (rk:Option Addr) (ck:Nat) (w:World) :
  Calls Tryz.prog 96 #[.agg #[.int .u8 1, .int .i64 n,S t, .slice rk 0 ck, .bool false]] w fun e w' => e = .returned (.bool (isDat 1 n t .nil false))∧Below w.heap.size w w' := by
 have Hal:Hid (Below w.heap.size w (w.alloc (.cells #[.int .u8 1, .int .i64 n,S t, .slice rk 0 ck, .bool false] 32))):=(Below.refl _ w).alloc (Nat.le_refl _) _
 by_cases ht:t=[]
 ·subst ht
  have e:isDat 1 n [] .nil false=(decide (-576460752303423488≤n) && decide (n<576460752303423488)):=by
   have:decide (n≤576460752303423487)=decide (n<576460752303423488):=by rw [Bool.eq_iff_iff];simp only [decide_eq_true_eq];omega
   simp [isDat,sameB,Fo.same,this]
  rw [e]
  cases h1:decide (-576460752303423488≤n)<;>cases h2:decide (n<576460752303423488)
  all_goals go_enter Tryz.func96,Tryz.ntmps96
  all_goals go_wp2
  all_goals go_ret
  all_goals exact ⟨rfl,Hal.out⟩
 ·have e:isDat 1 n t .nil false=false:=by simp [isDat,sameB,ht]
  rw [e]
  go_enter Tryz.func96,Tryz.ntmps96
  go_wp2
  go_ret
  exact ⟨rfl,Hal.out⟩
theorem may_sym (n:Int) (t:List UInt8) (ht:t.length≤281474976710656) (rk:Option Addr) (ck:Nat) (w:World) :
  Calls Tryz.prog 96 #[.agg #[.int .u8 2, .int .i64 n,S t, .slice rk 0 ck, .bool false]] w fun e w' => e = .returned (.bool (isDat 2 n t .nil false))∧Below w.heap.size w w' := by
 have Hal:Hid (Below w.heap.size w (w.alloc (.cells #[.int .u8 2, .int .i64 n,S t, .slice rk 0 ck, .bool false] 32))):=(Below.refl _ w).alloc (Nat.le_refl _) _
 have Ht:Hid (((⟨t.toArray⟩:ByteArray).size)≤281474976710656):=by show t.toArray.size≤_;simpa using ht
 clear ht
 cases bn:(n == 0)
 ·have c3:(n != 0)=true:=by simp [bne,bn]
  have e:isDat 2 n t .nil false=false:=by simp [isDat,sameB,bn]
  rw [e]
  go_enter Tryz.func96,Tryz.ntmps96
  go_wp2
  go_ret
  exact ⟨rfl,Hal.out⟩
 ·have c3:(n != 0)=false:=by simp [bne,bn]
  have e:isDat 2 n t .nil false=symB t:=by simp [isDat,sameB,Fo.same,bn]
  have Hs:Hid (refSym t=symB t):=by show _=_;rw [←sym_ref];rfl
  rw [e]
  go_enter Tryz.func96,Tryz.ntmps96
  go_wp2_with fail
  refine (refIsSymbol_any ⟨t.toArray⟩ _ Ht.out).mono ?_
  rw [show (ByteArray.mk t.toArray).data.toList=t by simp,Hs.out]
  rintro x w1 ⟨rfl,hb1⟩
  have H1:Hid (Below w.heap.size w w1):=Hal.out.trans (hb1.mono Hal.out.size)
  clear hb1
  go_wp2
  go_ret
  exact ⟨rfl,H1.out⟩
theorem may_lf (k n:Int) (t:List UInt8) (hk:k=3∨k=4) (rk:Option Addr) (ck:Nat) (w:World) :
  Calls Tryz.prog 96 #[.agg #[.int .u8 k, .int .i64 n,S t, .slice rk 0 ck, .bool false]] w fun e w' => e = .returned (.bool (isDat k n t .nil false))∧Below w.heap.size w w' := by
 have Hal:Hid (Below w.heap.size w (w.alloc (.cells #[.int .u8 k, .int .i64 n,S t, .slice rk 0 ck, .bool false] 32))):=(Below.refl _ w).alloc (Nat.le_refl _) _
 have e:isDat k n t .nil false=(n == 0 && decide (t=[])):=by
  rcases hk with rfl|rfl<;>simp [isDat,sameB,Fo.same]
 rw [e]
 rcases hk with rfl|rfl<;>cases bn:(n == 0)<;>by_cases ht:t=[]
 all_goals have c3:(n != 0) = !(n == 0):=rfl
 all_goals rw [bn] at c3
 all_goals simp only [Bool.not_true,Bool.not_false] at c3
 all_goals (try subst ht)
 all_goals go_enter Tryz.func96,Tryz.ntmps96
 all_goals go_wp2
 all_goals go_ret
 all_goals exact ⟨by simp_all,Hal.out⟩
theorem may_none (k n:Int) (t:List UInt8) (h1:k≠1) (h2:k≠2) (h3:k≠3) (h4:k≠4) (h5:k≠5) (rk:Option Addr) (ck:Nat) (w:World) :
  Calls Tryz.prog 96 #[.agg #[.int .u8 k, .int .i64 n,S t, .slice rk 0 ck, .bool false]] w fun e w' => e = .returned (.bool false)∧Below w.heap.size w w' := by
 have Hal:Hid (Below w.heap.size w (w.alloc (.cells #[.int .u8 k, .int .i64 n,S t, .slice rk 0 ck, .bool false] 32))):=(Below.refl _ w).alloc (Nat.le_refl _) _
 have b1:(k == 1)=false:=beq_eq_false_iff_ne.2 h1
 have b2:(k == 2)=false:=beq_eq_false_iff_ne.2 h2
 have b3:(k == 3)=false:=beq_eq_false_iff_ne.2 h3
 have b4:(k == 4)=false:=beq_eq_false_iff_ne.2 h4
 have b5:(k == 5)=false:=beq_eq_false_iff_ne.2 h5
 have d1:(k != 1)=true:=by simp [bne,b1]
 have d2:(k != 2)=true:=by simp [bne,b2]
 have d5:(k != 5)=true:=by simp [bne,b5]
 clear h1 h2 h3 h4 h5
 cases bn:(n == 0)<;>by_cases ht:t=[]
 all_goals have c3:(n != 0) = !(n == 0):=rfl
 all_goals rw [bn] at c3
 all_goals simp only [Bool.not_true,Bool.not_false] at c3
 all_goals (try subst ht)
 all_goals go_enter Tryz.func96,Tryz.ntmps96
 all_goals go_wp2
 all_goals go_ret
 all_goals exact ⟨rfl,Hal.out⟩
def MayC (N:Nat):Prop:=∀(k n:Int) (t:List UInt8) (s:Fo) (d:Bool) (rk:Option Addr) (ck:Nat) (w:World),s.size≤N→s.len≤maxLen→t.length≤281474976710656→s.tx→RS w rk s →
 Calls Tryz.prog 96 #[.agg #[.int .u8 k, .int .i64 n,S t, .slice rk s.len ck, .bool d]] w fun e w' => e = .returned (.bool (isDat k n t s d && allD s))∧Below w.heap.size w w'
theorem may_bad5 (n:Int) (t:List UInt8) (l:Nat) (hl0:l≤maxLen) (d:Bool) (rk:Option Addr) (ck:Nat) (w:World) (h:(n == 0)=false∨((n == 0)=true∧t≠[])) :
  Calls Tryz.prog 96 #[.agg #[.int .u8 5, .int .i64 n,S t, .slice rk l ck, .bool d]] w fun e w' => e = .returned (.bool false)∧Below w.heap.size w w' := by
 have hl:=hl0
 unfold maxLen at hl
 have Hal:Hid (Below w.heap.size w (w.alloc (.cells #[.int .u8 5, .int .i64 n,S t, .slice rk l ck, .bool d] 32))):=(Below.refl _ w).alloc (Nat.le_refl _) _
 rcases h with h|⟨h,ht⟩
 ·have h' : (n != 0)=true:=by simp [bne,h]
  go_enter Tryz.func96,Tryz.ntmps96
  go_wp2
  go_ret
  exact ⟨rfl,Hal.out⟩
 ·have h' : (n != 0)=false:=by simp [bne,h]
  go_enter Tryz.func96,Tryz.ntmps96
  go_wp2
  go_ret
  exact ⟨rfl,Hal.out⟩
theorem may_list {N:Nat} (h:∀M,M<N→MayC M) (s:Fo) (d:Bool) (rk:Option Addr) (ck:Nat) (w:World) (hN:s.size≤N) (hm:s.len≤maxLen) (htx:s.tx) (hR:RS w rk s) :
  Calls Tryz.prog 96 #[.agg #[.int .u8 5, .int .i64 0,S [], .slice rk s.len ck, .bool d]] w fun e w' => e = .returned (.bool ((!d || hasT s) && allD s))∧Below w.heap.size w w' := by
 have HC:Hid (∀M,M<N→MayC M):=h
 have hal:Below w.heap.size w (w.alloc (.cells #[.int .u8 5, .int .i64 0,S [], .slice rk s.len ck, .bool d] 32)):=(Below.refl _ w).alloc (Nat.le_refl _) _
 have Hal:Hid _:=hal
 have HQ0:Hid _:=World.alloc_heap_new w (.cells #[.int .u8 5, .int .i64 0,S [], .slice rk s.len ck, .bool d] 32)
 have Htx:Hid s.tx:=htx
 have hmm:=hm
 unfold maxLen at hmm
 obtain ⟨b,o,hab,hRd⟩:=hR
 have HRd:Hid (Rd w b o s):=hRd
 have Hra:Hid (s.len≠0→rk=some ⟨b,o,none⟩):=fun h=>hab.resolve_left h
 clear h hRd hab hal htx hm
 go_enter Tryz.func96,Tryz.ntmps96
 go_wp2
 go_loopw [3,4] (fun i q wr=>∃(j:Nat) (fi:Fo),i = .int .i64 j∧fi.len+j=s.len∧fi.size≤s.size∧Hid fi.tx∧Hid (Rd w b (o+j*5) fi)∧Hid (allD s=allD fi)∧Hid (Below w.heap.size w wr)∧Hid (wr.heap[w.heap.size]?=some (.cells #[.int .u8 5, .int .i64 0,S [], .slice rk s.len ck, .bool d] 32 (0,0)))) (fun i _ _=>s.len-(intOf i).toNat)
 case atStart=>exact ⟨0,s,rfl,by simp,Nat.le_refl _,Htx,by simpa using HRd,rfl,Hal,HQ0⟩
 case round =>
  obtain ⟨j,fi,rfl,hj,hsz,HT,HF,HA,HBj,HQj⟩:=hrel
  obtain ⟨z0,z1,z2,z3,z4,_⟩:=cells5 HQj.out
  have hws:w.heap.size<wr.heap.size:=(Array.getElem?_eq_some_iff.1 HQj.out).1
  cases fi with
  | nil =>
   have hj' : j=s.len:=by simpa [Fo.len] using hj
   have HJ:Hid _:=hj'
   have hjl:¬ ((j:Int)<(s.len:Int)):=by omega
   have HA1:Hid (allD s=true):=HA.out
   clear hj hj' hsz
   cases d with
   | false =>
    go_wp2
    go_ret
    exact ⟨by rw [HA1.out];rfl,HBj.out⟩
   | true =>
    by_cases h2:2≤s.len
    ·have d2:decide (2≤s.len)=true:=decide_eq_true h2
     obtain ⟨m,hfm⟩:∃m,s.len=m+1:=⟨s.len-1,by omega⟩
     have hb:b<w.heap.size:=by
      cases s with
      | nil=>simp [Fo.len] at h2
      | cons k1 n1 t1 s1 d1 r1=>exact HRd.out.1.1
     have hl:=(HBj.out.cell (p:=⟨b,o+m*5,none⟩) hb).trans (HRd.out.last 0 hfm)
     have hbr:b<wr.heap.size:=Nat.lt_of_lt_of_le hb HBj.out.size
     have hra:=Hra.out (by omega)
     subst hra
     obtain ⟨z,hzk⟩:∃z,lastK 0 s=z:=⟨_,rfl⟩
     rw [hzk] at hl
     have HV:Hid ((hasT s && allD s)=(z != 5)):=by
      show _=_
      rw [HA1.out];unfold hasT;rw [d2,hzk];simp
     rw [hfm] at z3 hjl h2 hmm
     have i1:(m:Int)<(m:Int)+1:=by omega
     have i2:(2:Int)≤(m:Int)+1:=by omega
     clear hfm hzk d2
     go_wp2
     go_ret
     exact ⟨by rw [HV.out];rfl,HBj.out⟩
    ·have HV:Hid ((hasT s && allD s)=false):=by
      show _=_
      unfold hasT;rw [decide_eq_false h2];rfl
     have i2:¬ (2:Int)≤(s.len:Int):=by omega
     go_wp2
     go_ret
     exact ⟨by rw [HV.out];rfl,HBj.out⟩
  | cons k' n' t' s' d' r' =>
   simp only [Fo.len] at hj
   simp only [Fo.size] at hsz
   have i1:(j:Int)<(s.len:Int):=by omega
   obtain ⟨⟨g0,g1,g2,g3,g4,g5⟩,⟨rk', ck', bk', ok', gk,gz,gs⟩,gr⟩:=HF.out
   have ec:∀o,wr.cell? ⟨b,o,none⟩=w.cell? ⟨b,o,none⟩:=fun o=>HBj.out.cell (p:=⟨b,o,none⟩) g0
   have h1:=(ec _).trans g1
   have h2:=(ec _).trans g2
   have h3:=(ec _).trans g3
   have h4:=(ec _).trans g4
   have hk:=(ec _).trans gk
   have h0:b<wr.heap.size:=Nat.lt_of_lt_of_le g0 HBj.out.size
   have HRk:Hid (RS w rk' s'):=⟨bk', ok', gz,gs⟩
   have Hr:Hid _:=gr
   have hjs:j<s.len:=by omega
   have hra:=Hra.out (by omega)
   subst hra
   clear ec g1 g2 g3 g4 gk gz gs gr
   go_wp2_with fail
   refine (HC.out s'.size (by omega) k' n' t' s' d' rk' ck' wr (Nat.le_refl _) g5 HT.out.1 HT.out.2.1 (HRk.out.below HBj.out)).mono ?_
   rintro e w2 ⟨rfl,hb2⟩
   have HB2:Hid (Below w.heap.size w w2):=HBj.out.trans (hb2.mono HBj.out.size)
   have HQ2:Hid _:=(hb2.block _ hws).trans HQj.out
   clear hb2 h1 h2 h3 h4 hk z0 z1 z2 z3 z4
   cases hv:(isDat k' n' t' s' d' && allD s')
   ·have HV:Hid (allD s=false):=by
     show _=_
     rw [HA.out,allD, ←Bool.and_assoc,hv];rfl
    clear hv
    go_wp2
    go_ret
    exact ⟨by rw [HV.out,Bool.and_false];rfl,HB2.out⟩
   ·have HV:Hid (allD s=allD r'):=by
     show _=_
     rw [HA.out,allD, ←Bool.and_assoc,hv];rfl
    clear hv
    go_wp2
    go_roundw
    case rel=>exact ⟨j+1,r', by go_num,by omega,by omega,HT.out.2.2,by rw [show o+(j+1)*5=o+j*5+5 by omega];exact Hr,HV,HB2,HQ2⟩
    case measure=>simp [intOf];omega
theorem may_all:∀N,MayC N:=fun N=>by
 induction N using Nat.strongRecOn with
 | _ N ih =>
  intro k n t s d rk ck w hN hm ht htx hR
  by_cases h5:k=5
  ·subst h5
   by_cases hn:n=0
   ·subst hn
    by_cases h0:t=[]
    ·subst h0
     have e:isDat 5 0 [] s d=(!d || hasT s):=by simp [isDat]
     rw [e]
     exact may_list ih s d rk ck w hN hm htx hR
    ·have e:isDat 5 0 t s d=false:=by simp [isDat,h0]
     rw [e]
     exact may_bad5 0 t s.len hm d rk ck w (.inr ⟨rfl,h0⟩)
   ·have e:isDat 5 n t s d=false:=by simp [isDat,hn]
    rw [e]
    exact may_bad5 n t s.len hm d rk ck w (.inl (by simpa using hn))
  ·cases s with
   | cons k1 n1 t1 s1 d1 r =>
    rw [isDat_more h5]
    exact may_kids k n t r.len hm d rk ck w h5
   | nil =>
    cases d with
    | true =>
     have e:isDat k n t .nil true=false:=by
      cases hi:isDat k n t .nil true with
      | false=>rfl
      | true =>
       rcases isDat_kind hi with rfl|rfl|rfl|rfl|rfl
       ·exact absurd (isDat_num hi).2.2.2 (by simp)
       ·exact absurd (isDat_sym hi).2.2.2 (by simp)
       ·exact absurd (isDat_lf (.inl rfl) hi).2.2.2 (by simp)
       ·exact absurd (isDat_lf (.inr rfl) hi).2.2.2 (by simp)
       ·exact absurd rfl h5
     rw [e]
     exact may_dot k n t rk ck w h5
    | false =>
     rw [show (isDat k n t .nil false && allD .nil)=isDat k n t .nil false by simp [allD]]
     by_cases h1:k=1
     ·subst h1;exact may_num n t rk ck w
     by_cases h2:k=2
     ·subst h2;exact may_sym n t ht rk ck w
     by_cases h3:k=3
     ·subst h3;exact may_lf 3 n t (.inl rfl) rk ck w
     by_cases h4:k=4
     ·subst h4;exact may_lf 4 n t (.inr rfl) rk ck w
     have e:isDat k n t .nil false=false:=by simp [isDat,h1,h2,h3,h4,h5]
     rw [e]
     exact may_none k n t h1 h2 h3 h4 h5 rk ck w
theorem conv_digit (n:Nat) (w:World):(convert 152 9 (.slice (some ⟨w.heap.size,0,none⟩) 1 1)).run Tryz.prog (w.alloc (.cells #[.int .u8 (48+(n:Int) % 10)] 5)) = .ok (S [UInt8.ofNat (48+n % 10)]) (w.alloc (.cells #[.int .u8 (48+(n:Int) % 10)] 5)):=by
 refine run_convert_bytes_back (P:=Tryz.prog) (w.alloc (.cells #[.int .u8 (48+(n:Int) % 10)] 5)) 152 9 5 ⟨w.heap.size,0,none⟩ 1 [UInt8.ofNat (48+n % 10)] Tryz.underlying152 Tryz.underlying5 Tryz.underlying9 (fun j hj=>?_)
 have:j=0:=by simpa using hj
 subst this
 show (w.alloc _).cell? ⟨w.heap.size,0,none⟩=_
 rw [World.cell?_alloc_mark]
 have e:(UInt8.ofNat (48+n % 10)).toNat=48+n % 10:=by
  rw [UInt8.toNat_ofNat'];omega
 simp
 omega
theorem digits_nat:∀(N n:Nat),n≤N→n≤9223372036854775807→∀w:World,
  Calls Tryz.prog 135 #[.int .i64 (n:Int)] w fun e w' => e = .returned (S (Lib.decDigits n))∧Below w.heap.size w w' := by
 intro N
 induction N using Nat.strongRecOn with
 | _ N ih =>
 intro n hN hn w
 have HI:Hid (∀m,m<N→∀n,n≤m→n≤9223372036854775807→∀w:World,Calls Tryz.prog 135 #[.int .i64 (n:Int)] w fun e w' => e = .returned (S (Lib.decDigits n))∧Below w.heap.size w w'):=ih
 clear ih
 have i0:¬ ((n:Int)<0):=by omega
 have kc:=conv_digit n
 obtain ⟨c,hc⟩:∃c,UInt8.ofNat (48+n % 10)=c:=⟨_,rfl⟩
 have Hc:Hid _:=hc
 rw [hc] at kc
 clear hc
 have Hal:Hid (Below w.heap.size w (w.alloc (.cells #[.int .u8 (48+(n:Int) % 10)] 5))):=(Below.refl _ w).alloc (Nat.le_refl _) _
 by_cases h:n<10
 ·have i1:(n:Int)<10:=by omega
  have HV:Hid (Lib.decDigits n=[c]):=by show _=_;rw [←Hc.out,Lib.decDigits_one h,Nat.mod_eq_of_lt h]
  go_enter Tryz.func135,Tryz.ntmps135
  go_wp2
  go_ret
  exact ⟨by rw [HV.out];rfl,Hal.out⟩
 ·have i1:¬ (n:Int)<10:=by omega
  have HV:Hid (Lib.decDigits n=Lib.decDigits (n / 10)++[c]):=by
   show _=_;rw [←Hc.out];conv=>lhs;rw [Lib.decDigits,dif_neg h]
  have hlen:(Lib.decDigits (n / 10)).length≤21:=by
   have:=Lib.itoa_length_le ((n / 10:Nat):Int) (by omega) (by omega)
   rwa [Lib.itoa_nonneg] at this
  go_enter Tryz.func135,Tryz.ntmps135
  go_wp2_with fail
  refine (HI.out (n / 10) (by omega) (n / 10) (Nat.le_refl _) (by omega) _).mono ?_
  rintro e w2 ⟨rfl,hb2⟩
  have HB2:Hid (Below w.heap.size w w2):=Hal.out.trans (hb2.mono Hal.out.size)
  clear hb2
  go_wp2
  go_ret
  exact ⟨by rw [HV.out];rfl,HB2.out⟩
theorem digits_any (n:Int) (h0 : -9223372036854775807≤n) (h1:n≤9223372036854775807) (w:World) :
  Calls Tryz.prog 135 #[.int .i64 n] w fun e w' => e = .returned (S (Lib.itoa n))∧Below w.heap.size w w' := by
 by_cases h:n<0
 ·obtain ⟨m,hm⟩:∃m:Nat,n = -(m:Int):=⟨n.natAbs,by omega⟩
  subst hm
  have HV:Hid (Lib.itoa (-(m:Int))=45::Lib.decDigits m):=by show _=_;exact Lib.itoa_neg m (by omega)
  have hlen:(Lib.decDigits m).length≤21:=by
   have:=Lib.itoa_length_le (m:Int) (by omega) (by omega)
   rwa [Lib.itoa_nonneg] at this
  have hm0:m≤9223372036854775807:=by omega
  go_enter Tryz.func135,Tryz.ntmps135
  go_wp2_with fail
  refine (digits_nat m m (Nat.le_refl _) hm0 _).mono ?_
  rintro e w2 ⟨rfl,hb2⟩
  have HB2:Hid (Below w.heap.size w w2):=hb2
  clear hb2
  go_wp2
  go_ret
  exact ⟨by rw [HV.out];rfl,HB2.out⟩
 ·obtain ⟨m,hm⟩:∃m:Nat,n=(m:Int):=⟨n.toNat,by omega⟩
  subst hm
  rw [Lib.itoa_nonneg]
  exact digits_nat m m (Nat.le_refl _) (by omega) w
end Go.Proofs.YtkgnigloboajcaaGreatDoor
