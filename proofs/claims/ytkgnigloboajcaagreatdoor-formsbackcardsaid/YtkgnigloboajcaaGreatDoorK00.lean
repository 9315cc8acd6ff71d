/- What the lexer's functions say, as plain functions on lists of bytes: no program in it.; The contracts of the lexer's inner functions: each returns what the plain functions on lists of bytes say.; What digits spell, held against the library's own function; the contracts of number, word, begin, IsSymbol. -/
import Derived.Test.YtkgnigloboajcaaGreatDoorHShelf
import Derived.Lib.ParseIntB
import Derived.WalkKit
import Derived.WalkSpells
import Derived.WalkLawsBesides
import Derived.Below
set_option maxHeartbeats 1000000
namespace Go.Proofs.YtkgnigloboajcaaGreatDoor
structure Tok where
 kind:Int
 text:List UInt8
 n:Int
 pos:Int
def isWI (c:Int):Bool:=decide (33≤c) && decide (c≤126) && c != 40 && c != 41 && c != 39 && c != 59 && c != 34
def isBI (c:Int):Bool:=c == 32 || c == 9 || c == 10 || c == 13
def isDI (c:Int):Bool:=decide (48≤c) && decide (c≤57)
def isW (b:UInt8):Bool:=isWI b.toNat
def isB (b:UInt8):Bool:=isBI b.toNat
def isD (b:UInt8):Bool:=isDI b.toNat
def leave:Bool→List UInt8→List UInt8
 | _,[]=>[]
 | true,b::r=>if b.toNat=10 then leave false r else leave true r
 | false,b::r=>if isB b then leave false r else if b.toNat=59 then leave true r else b::r
def unsign:List UInt8→List UInt8
 | []=>[]
 | b::r=>if b.toNat=45 then r else b::r
def isNum (l:List UInt8):Bool:=(unsign l).all isD && !(unsign l).isEmpty
def begNum (l:List UInt8):Bool:=match unsign l with | []=>false|d::_=>isD d
def val (acc:Nat) (l:List UInt8):Nat:=l.foldl (fun a d=>10*a+(d.toNat-48)) acc
theorem val_nil (acc:Nat):val acc []=acc:=by unfold val;rw [List.foldl_nil]
theorem val_cons (acc:Nat) (d:UInt8) (r:List UInt8):val acc (d::r)=val (10*acc+(d.toNat-48)) r:=by unfold val;rw [List.foldl_cons]
def neg (l:List UInt8):Bool:=match l with | []=>false|b::_=>b.toNat == 45
def num (l:List UInt8):Int:=if neg l then -(val 0 (unsign l):Int) else (val 0 (unsign l):Int)
def fits (n:Int):Bool:=decide (-576460752303423488≤n) && decide (n≤576460752303423487)
def hash (l:List UInt8):Bool:=match l with | []=>false|b::_=>b.toNat == 35
def bad (l:List UInt8):Bool:=hash l || begNum l || decide (32<l.length)
def tk (k:Int):Tok:=⟨k,[],0,0⟩
def word (l:List UInt8):Tok :=
 if l=[46] then tk 4 else if l=[35,116] then tk 8 else if l=[35,102] then tk 7
 else if isNum l then (if fits (num l) then ⟨5,[],num l,0⟩ else tk 0)
 else if bad l then tk 0 else ⟨6,l,0,0⟩
def wordE (l:List UInt8):Int :=
 if l=[46] then 0 else if l=[35,116] then 0 else if l=[35,102] then 0
 else if isNum l then (if fits (num l) then 0 else 52)
 else if bad l then 51 else 0
def begT (l:List UInt8):Tok:=match l with
 | []=>tk 9
 | b::_=>if b.toNat=40 then tk 1 else if b.toNat=41 then tk 2 else if b.toNat=39 then tk 3
  else if isW b then word (l.takeWhile isW) else tk 0
def begS (l:List UInt8):Nat:=match l with
 | []=>0
 | b::_=>if b.toNat=40 then 1 else if b.toNat=41 then 1 else if b.toNat=39 then 1
  else if isW b then (l.takeWhile isW).length else 0
def begE (l:List UInt8):Int:=match l with
 | []=>0
 | b::_=>if b.toNat=40 then 0 else if b.toNat=41 then 0 else if b.toNat=39 then 0
  else if isW b then wordE (l.takeWhile isW) else 50
def put (t:Tok) (p:Int):Tok:={ t with pos:=p }
def at0 (N:Nat) (l:List UInt8):Tok:=put (begT (leave false l)) ((N:Int)-(leave false l).length)
def er0 (l:List UInt8):Int:=begE (leave false l)
def nx0 (l:List UInt8):List UInt8:=(leave false l).drop (begS (leave false l))
def last (l:List UInt8):Bool:=er0 l != 0 || (leave false l).isEmpty
def scan (N:Nat):Nat→List UInt8→List (Tok × Int)
 | 0,_=>[]
 | f+1,l=>(at0 N l,er0 l)::(if last l then [] else scan N f (nx0 l))
open Go.RowKit
theorem ret_bool {a b:Bool} (h:a=b):Ending.returned (.bool a) = .returned (.bool b):=by rw [h]
theorem ret_int {k:IntKind} {a b:Int} (h:a=b):Ending.returned (.int k a) = .returned (.int k b):=by rw [h]
theorem isOfWord_any (c:Int) (w:World) (h0:0≤c) (h1:c≤255) :
  Calls Tryz.prog 193 #[.int .u8 c] w fun e w' => e = .returned (.bool (isWI c))∧w' = w:=by
 go_enter Tryz.func193,Tryz.ntmps193
 go_wp2
 all_goals go_ret
 all_goals refine ⟨ret_bool ?_,rfl⟩
 all_goals (simp only [beq_iff_eq,beq_eq_false_iff_ne,ne_eq] at *; rw [Bool.eq_iff_iff];simp [isWI];omega)
theorem isDigit_any (c:Int) (w:World) (h0:0≤c) (h1:c≤255) :
  Calls Tryz.prog 208 #[.int .u8 c] w fun e w' => e = .returned (.bool (isDI c))∧w' = w:=by
 go_enter Tryz.func208,Tryz.ntmps208
 go_wp2
 all_goals go_ret
 all_goals exact ⟨ret_bool (by unfold isDI;rw [Bool.eq_iff_iff];simp;omega),rfl⟩
theorem drop_step (s:ByteArray) (k:Nat) (h:k<s.size):s.data.toList.drop k=s[k]::s.data.toList.drop (k+1):=by
 rw [List.drop_eq_getElem_cons (by simpa using h)];rfl
theorem drop_all (s:ByteArray) (k:Nat) (h:s.size≤k):s.data.toList.drop k=[]:=by
 rw [List.drop_eq_nil_iff];simpa using h
theorem size_len (s:ByteArray):s.size=s.data.toList.length:=by simp only [Array.length_toList];rfl
theorem byte_le (s:ByteArray) (k:Nat) (h:k<s.size):(s[k].toNat:Int)≤255:=by have:=s[k].toNat_lt;omega
theorem wordSize_any (s:ByteArray) (w:World) (hs:s.size≤maxLen) :
  Calls Tryz.prog 194 #[.string s] w fun e w' => e = .returned (.int .i64 ((s.data.toList.takeWhile isW).length:Nat))∧w' = w:=by
 unfold maxLen at hs
 go_enter Tryz.func194,Tryz.ntmps194
 go_wp2
 go_loop [3] (fun i=>∃k:Nat,k≤s.size∧i = .int .i64 k∧Hid ((s.data.toList.takeWhile isW).length=k+((s.data.toList.drop k).takeWhile isW).length)) (fun i=>s.size-(intOf i).toNat)
 case atStart=>exact ⟨0,Nat.zero_le _,rfl,by show _=_;simp⟩
 case round =>
  obtain ⟨k,hk,rfl,H⟩:=hrel
  by_cases hlt:k<s.size
  ·have hd:Hid _:=drop_step s k hlt
   have hb:=byte_le s k hlt
   cases hc:isWI s[k].toNat
   ·have nx:Hid ((s.data.toList.takeWhile isW).length=k):=by
     show _=_
     rw [H.out,hd.out];simp [isW,hc]
    go_wp2_with (go_at_call 193;refine (isOfWord_any _ _ (by omega) (by omega)).mono ?_;rintro e w' ⟨rfl,rfl⟩)
    go_ret
    exact ⟨ret_int (by rw [nx.out]),rfl⟩
   ·have nx:Hid ((s.data.toList.takeWhile isW).length=(k+1)+((s.data.toList.drop (k+1)).takeWhile isW).length):=by
     show _=_
     rw [H.out,hd.out];simp [isW,hc];omega
    go_wp2_with (go_at_call 193;refine (isOfWord_any _ _ (by omega) (by omega)).mono ?_;rintro e w' ⟨rfl,rfl⟩)
    go_round
    case rel=>exact ⟨k+1,by omega,by go_num,nx⟩
    case measure=>simp [intOf];omega
  ·have nx:Hid ((s.data.toList.takeWhile isW).length=k):=by
    show _=_
    rw [H.out,drop_all s k (by omega)];simp
   go_wp2
   go_ret
   exact ⟨ret_int (by rw [nx.out]),rfl⟩
theorem trim_unsign (l:List UInt8):Lib.trimPrefix l [45]=unsign l:=by
 cases l with
 | nil=>rfl
 | cons b r =>
  simp only [Lib.trimPrefix,Lib.hasPrefix,unsign,List.isPrefixOf]
  by_cases h:b.toNat=45
  ·have:b=45:=UInt8.toNat_inj.1 h
   simp [this]
  ·have:¬ b=45:=fun e=>h (by rw [e];rfl)
   simp [h,Ne.symm this]
theorem trim_string (s:ByteArray):∃d:ByteArray,d.data.toList=unsign s.data.toList∧(⟨(Lib.trimPrefix s.data.toList (ByteArray.mk #[45]).data.toList).toArray⟩:ByteArray)=d :=
 ⟨_,by rw [show (ByteArray.mk #[45]).data.toList=[45] from rfl,trim_unsign],rfl⟩
theorem unsign_le (l:List UInt8):(unsign l).length≤l.length:=by
 cases l with
 | nil=>simp [unsign]
 | cons b r=>simp only [unsign];split<;>simp
theorem isNumber_any (s:ByteArray) (w:World) (hs:s.size≤maxLen) :
  Calls Tryz.prog 201 #[.string s] w fun e w' => e = .returned (.bool (isNum s.data.toList))∧w' = w:=by
 unfold maxLen at hs
 obtain ⟨d,hd,he⟩:=trim_string s
 have hds:d.size≤s.size:=by rw [size_len,size_len,hd];exact unsign_le _
 have Hd:Hid _:=hd
 have Hn:Hid (isNum s.data.toList=((d.data.toList).all isD && !d.data.toList.isEmpty)):=by show _=_;rw [hd];rfl
 have He:Hid _:=he
 clear hd he
 go_enter Tryz.func201,Tryz.ntmps201
 go_wp2_with (go_at_call 207;refine (Tryz.strings_TrimPrefix _ _ _).mono ?_;rintro e w' ⟨rfl,rfl⟩;rw [He.out])
 go_loop [9] (fun i=>∃k:Nat,k≤d.size∧i = .int .i64 k∧Hid ((d.data.toList).all isD=(d.data.toList.drop k).all isD)) (fun i=>d.size-(intOf i).toNat)
 case atStart=>exact ⟨0,Nat.zero_le _,rfl,by show _=_;simp⟩
 case round =>
  obtain ⟨k,hk,rfl,H⟩:=hrel
  by_cases hlt:k<d.size
  ·have hdr:Hid _:=drop_step d k hlt
   have hb:=byte_le d k hlt
   cases hc:isDI d[k].toNat
   ·have nx:Hid (isNum s.data.toList=false):=by
     show _=_
     rw [Hn.out,H.out,hdr.out];simp [isD,hc]
    go_wp2_with (go_at_call 208;refine (isDigit_any _ _ (by omega) (by omega)).mono ?_;rintro e w' ⟨rfl,rfl⟩)
    go_ret
    exact ⟨ret_bool (by rw [nx.out]),rfl⟩
   ·have nx:Hid ((d.data.toList).all isD=(d.data.toList.drop (k+1)).all isD):=by
     show _=_
     rw [H.out,hdr.out];simp [isD,hc]
    go_wp2_with (go_at_call 208;refine (isDigit_any _ _ (by omega) (by omega)).mono ?_;rintro e w' ⟨rfl,rfl⟩)
    go_round
    case rel=>exact ⟨k+1,by omega,by go_num,nx⟩
    case measure=>simp [intOf];omega
  ·have nx:Hid (isNum s.data.toList = !d.data.toList.isEmpty):=by
    show _=_
    rw [Hn.out,H.out,drop_all d k (by omega)];simp
   go_wp2
   all_goals go_ret
   all_goals exact ⟨ret_bool (by rw [nx.out,Lib.toList_data]),rfl⟩
theorem begNum_any (s:ByteArray) (w:World) :
  Calls Tryz.prog 203 #[.string s] w fun e w' => e = .returned (.bool (begNum s.data.toList))∧w' = w:=by
 obtain ⟨d,hd,he⟩:=trim_string s
 have Hn:Hid (begNum s.data.toList=match d.data.toList with | []=>false|x::_=>isD x):=by show _=_;rw [hd];rfl
 have He:Hid _:=he
 clear hd he
 by_cases h0:d.size=0
 ·have he:d.toList.isEmpty=true:=by rw [Lib.toList_data,List.isEmpty_iff_length_eq_zero, ←size_len];exact h0
  have nx:Hid (begNum s.data.toList=false):=by
   show _=_
   have:d.data.toList=[]:=by rw [←List.length_eq_zero_iff, ←size_len];exact h0
   rw [Hn.out,this]
  clear h0
  go_enter Tryz.func203,Tryz.ntmps203
  go_wp2_with (go_at_call 207;refine (Tryz.strings_TrimPrefix _ _ _).mono ?_;rintro e w' ⟨rfl,rfl⟩;rw [He.out])
  go_ret
  exact ⟨ret_bool (by rw [nx.out]),rfl⟩
 ·have he:d.toList.isEmpty=false:=by
   rw [Lib.toList_data,Bool.eq_false_iff];intro h;rw [List.isEmpty_iff_length_eq_zero, ←size_len] at h;exact h0 h
  have hlt:0<d.size:=by omega
  have hb:=byte_le d 0 hlt
  have nx:Hid (begNum s.data.toList=isDI d[0].toNat):=by
   show _=_
   have:=drop_step d 0 hlt
   rw [List.drop_zero] at this
   rw [Hn.out,this];rfl
  clear h0
  go_enter Tryz.func203,Tryz.ntmps203
  go_wp2_with (first|(go_at_call 207;refine (Tryz.strings_TrimPrefix _ _ _).mono ?_;rintro e w' ⟨rfl,rfl⟩;rw [He.out])|(go_at_call 208;refine (isDigit_any _ _ (by omega) (by omega)).mono ?_;rintro e w' ⟨rfl,rfl⟩))
  go_ret
  exact ⟨ret_bool (by rw [nx.out]),rfl⟩
theorem val_ge (l:List UInt8):∀acc,acc≤val acc l:=by
 induction l with
 | nil=>intro acc;rw [val_nil];exact Nat.le_refl _
 | cons d r ih=>intro acc;have:=ih (10*acc+(d.toNat-48));rw [val_cons];omega
theorem val_ge10 (d:UInt8) (r:List UInt8) (acc:Nat):10*acc≤val acc (d::r):=by
 have:=val_ge r (10*acc+(d.toNat-48));rw [val_cons];omega
theorem isD_iff (d:UInt8):isD d=true↔48≤d.toNat∧d.toNat≤57:=by simp [isD,isDI];omega
theorem parseM (l:List UInt8) (h:l.all isD=true):∀acc,acc≤18446744073709551615 →
  (Lib.parseUintM 18446744073709551615 acc l = .ok (val acc l)∧val acc l≤18446744073709551615)∨(Lib.parseUintM 18446744073709551615 acc l = .range∧18446744073709551615<val acc l):=by
 induction l with
 | nil=>intro acc h;exact .inl ⟨by rw [val_nil];rfl,by rw [val_nil];exact h⟩
 | cons d r ih =>
  intro acc ha
  simp only [List.all_cons,Bool.and_eq_true] at h
  have hd:=(isD_iff d).1 h.1
  simp only [Lib.parseUintM,if_pos hd]
  have h10:=val_ge10 d r acc
  have hg:=val_ge r (10*acc+(d.toNat-48))
  have hv:=val_cons acc d r
  by_cases h1:1844674407370955162≤acc
  ·rw [if_pos h1];exact .inr ⟨rfl,by omega⟩
  ·rw [if_neg h1]
   by_cases h2:18446744073709551615<acc*10+(d.toNat-48)
   ·rw [if_pos h2];exact .inr ⟨rfl,by omega⟩
   ·rw [if_neg h2,hv,show acc*10+(d.toNat-48)=10*acc+(d.toNat-48) from by omega]
    exact ih h.2 _ (by omega)
theorem fits_iff (n:Int):fits n=true ↔ -576460752303423488≤n∧n≤576460752303423487:=by simp [fits]
theorem fits_no (n:Int) (h:n < -576460752303423488∨576460752303423487<n):fits n=false:=by
 rw [Bool.eq_false_iff];intro e;have:=(fits_iff n).1 e;omega
theorem parse_num (l:List UInt8) (h:isNum l=true):(Lib.parseIntB 64 l = .ok (num l))∨(Lib.parseIntB 64 l = .range∧fits (num l)=false):=by
 cases l with
 | nil=>simp [isNum,unsign] at h
 | cons c r =>
  simp only [isNum,Bool.and_eq_true,Bool.not_eq_true', List.isEmpty_eq_false_iff] at h
  obtain ⟨ha,hne⟩:=h
  have harg:(if c.toNat=43∨c.toNat=45 then r else c::r)=unsign (c::r):=by
   by_cases h45:c.toNat=45
   ·simp [unsign,h45]
   ·simp only [unsign,if_neg h45] at ha ⊢
    simp only [List.all_cons,Bool.and_eq_true] at ha
    have:=(isD_iff c).1 ha.1
    rw [if_neg (by omega)]
  have hM:Lib.parseUintB 64 (unsign (c::r))=Lib.parseUintM 18446744073709551615 0 (unsign (c::r)):=by
   unfold Lib.parseUintB;rw [if_neg hne]
  have hn:num (c::r)=if c.toNat=45 then -(val 0 (unsign (c::r)):Int) else (val 0 (unsign (c::r)):Int):=by
   simp [num,neg]
  rcases parseM (unsign (c::r)) ha 0 (by omega) with ⟨hp,hv⟩|⟨hp,hv⟩
  ·simp only [Lib.parseIntB,harg,hM,hp]
   generalize val 0 (unsign (c::r))=v at *
   by_cases h45:c.toNat=45
   ·rw [if_neg (by simp [h45])]
    rw [if_pos h45] at hn
    by_cases h63:9223372036854775808<v
    ·rw [if_pos ⟨h45,h63⟩]
     exact .inr ⟨rfl,by rw [hn];exact fits_no _ (by omega)⟩
    ·rw [if_neg (by simp;omega),hn];simp [h45]
   ·rw [if_neg h45] at hn
    by_cases h63:9223372036854775808≤v
    ·rw [if_pos ⟨h45,h63⟩]
     exact .inr ⟨rfl,by rw [hn];exact fits_no _ (by omega)⟩
    ·rw [if_neg (by simp;omega),if_neg (by simp [h45]),hn];simp [h45]
  ·simp only [Lib.parseIntB,harg,hM,hp]
   refine .inr ⟨trivial,?_⟩
   rw [hn]
   generalize val 0 (unsign (c::r))=v at *
   split<;>exact fits_no _ (by omega)
abbrev S (l:List UInt8):Value := .string ⟨l.toArray⟩
theorem S_of (s:ByteArray):S s.data.toList = .string s:=rfl
def encT (t:Tok):Value := .agg #[.int .u8 t.kind,S t.text, .int .i64 t.n, .int .i64 t.pos]
def EV (w:World):Prop:=∃te pe,w.cell? ⟨6,0,none⟩=some (.iface te pe)
def numT (l:List UInt8):Tok:=if fits (num l) then ⟨5,[],num l,0⟩ else tk 0
def numE (l:List UInt8):Int:=if fits (num l) then 0 else 52
theorem EV.lt {w:World} (h:EV w):6<w.heap.size:=by
 obtain ⟨te,pe,h⟩:=h
 rcases Nat.lt_or_ge 6 w.heap.size with h' | h'
 ·exact h'
 ·simp [World.cell?,Array.getElem?_eq_none h'] at h
theorem EV.below {w w' : World} {B:Nat} (h:EV w) (hb:Below B w w') (hB:6<B):EV w' := by
 obtain ⟨te,pe,h⟩:=h
 exact ⟨te,pe,(hb.cell (p:=⟨6,0,none⟩) hB).trans h⟩
theorem EV.alloc {w:World} (h:EV w) (o:Obj):EV (w.alloc o):=h.below ((Below.refl w.heap.size w).alloc (Nat.le_refl _) o) h.lt
theorem bcell {W w1:World} (hb:Below W.heap.size W w1):(∀b o,b<W.heap.size→w1.cell? ⟨b,o,none⟩=W.cell? ⟨b,o,none⟩)∧(∀b o,b<W.heap.size→w1.frozen? ⟨b,o,none⟩=W.frozen? ⟨b,o,none⟩) :=
 ⟨fun b o h=>hb.cell (p:=⟨b,o,none⟩) h,fun b o h=>hb.frozen (p:=⟨b,o,none⟩) h⟩
theorem below1 {w w1:World} {X:Obj} (hb:Below (w.alloc X).heap.size (w.alloc X) w1):Below w.heap.size w w1 :=
 ((Below.refl _ w).alloc (Nat.le_refl _) X).trans (hb.mono (by simp))
theorem fits_out (n:Int) (h:fits n=false):n < -576460752303423488∨576460752303423487<n:=by
 rcases Decidable.em (n < -576460752303423488∨576460752303423487<n) with h' | h'
 ·exact h'
 ·rw [(fits_iff _).2 (by omega)] at h;cases h
theorem below4 {w w1:World} {b:Nat} (h:Below w.heap.size w w1) (hb:w.heap.size≤b) (v0 v1 v2 v3:Value) :
  Below w.heap.size w ((((w1.setCell ⟨b,0,none⟩ v0).setCell ⟨b,1,none⟩ v1).setCell ⟨b,2,none⟩ v2).setCell ⟨b,3,none⟩ v3) :=
 (((h.setCell (p:=⟨b,0,none⟩) hb v0).setCell (p:=⟨b,1,none⟩) hb v1).setCell (p:=⟨b,2,none⟩) hb v2).setCell (p:=⟨b,3,none⟩) hb v3
abbrev Z56:Obj := .cells #[.int .u8 0, .string ⟨#[]⟩, .int .i64 0, .int .i64 0] 171
theorem number_any (s:ByteArray) (w:World) (hs:s.size≤281474976710656) (hn:isNum s.data.toList=true) (hE:EV w) :
  Calls Tryz.prog 202 #[.string s] w fun e w' => e = .returned (.tuple #[encT (numT s.data.toList), .int .i64 (numE s.data.toList)])∧Below w.heap.size w w' := by
 have HE:Hid (EV w):=hE
 have hp:=parse_num s.data.toList hn
 clear hn hE
 rcases hp with hp|⟨hp,hf⟩
 ·have Hp:Hid _:=hp
  clear hp
  cases hf:fits (num s.data.toList)
  ·have Hf:Hid _:=hf
   have hout:=fits_out _ hf
   have HT:Hid (numT s.data.toList=tk 0):=by show _=_;simp [numT,hf]
   have HN:Hid (numE s.data.toList=52):=by show _=_;simp [numE,hf]
   clear hf
   generalize num s.data.toList=v at *
   rcases hout with ho|ho
   all_goals
    go_enter Tryz.func202,Tryz.ntmps202
    go_wp2_with fail
    refine (Tryz.strconv_ParseInt_10_at64_ok s (by omega) v Hp.out _).mono ?_
    rintro e w1 ⟨rfl,hw1⟩
    have hb:Below (w.alloc Z56).heap.size (w.alloc Z56) w1:=by
     rcases hw1 with rfl|⟨t,rfl⟩
     ·exact Below.refl _ _
     ·exact Lib.bytesWorld_below _ 5 t
    clear hw1
    obtain ⟨hc,hfz⟩:=bcell hb
    have hz:w.heap.size<w1.heap.size:=by have:=hb.size;simp at this;omega
    go_wp2
    refine bodyPost_ret (v := .tuple #[.agg #[.int .u8 0, .string ⟨#[]⟩, .int .i64 0, .int .i64 0], .int .i64 52]) (by simp [results,Tryz.results202,go_sem,hc]) rfl ⟨?_,?_⟩
    ·rw [HT.out,HN.out];rfl
    ·exact below4 (below1 hb) (Nat.le_refl _) _ _ _ _
  ·obtain ⟨h1,h2⟩:=(fits_iff _).1 hf
   have HT:Hid (numT s.data.toList=⟨5,[],num s.data.toList,0⟩):=by show _=_;simp [numT,hf]
   have HN:Hid (numE s.data.toList=0):=by show _=_;simp [numE,hf]
   clear hf
   generalize num s.data.toList=v at *
   go_enter Tryz.func202,Tryz.ntmps202
   go_wp2_with fail
   refine (Tryz.strconv_ParseInt_10_at64_ok s (by omega) v Hp.out _).mono ?_
   rintro e w1 ⟨rfl,hw1⟩
   have hb:Below (w.alloc Z56).heap.size (w.alloc Z56) w1:=by
    rcases hw1 with rfl|⟨t,rfl⟩
    ·exact Below.refl _ _
    ·exact Lib.bytesWorld_below _ 5 t
   clear hw1
   obtain ⟨hc,hfz⟩:=bcell hb
   go_wp2
   refine bodyPost_ret (v := .tuple #[.agg #[.int .u8 5, .string ⟨#[]⟩, .int .i64 v, .int .i64 0], .int .i64 0]) (by simp [results,Tryz.results202,go_sem,hc]) rfl ⟨?_,?_⟩
   ·rw [HT.out,HN.out];rfl
   ·exact below4 (below1 hb) (Nat.le_refl _) _ _ _ _
 ·have Hp:Hid _:=hp
  have HT:Hid (numT s.data.toList=tk 0):=by show _=_;simp [numT,hf]
  have HN:Hid (numE s.data.toList=52):=by show _=_;simp [numE,hf]
  clear hp hf
  obtain ⟨te,pe,hev⟩:=HE.out.alloc Z56
  have HEV:Hid _:=hev
  clear hev
  go_enter Tryz.func202,Tryz.ntmps202
  go_wp2_with fail
  refine (Tryz.strconv_ParseInt_10_at64_range s hs Hp.out _ _ HEV.out (.inr ⟨_,_,rfl⟩)).mono ?_
  rintro e w1 ⟨N,rfl,_,_,hb⟩
  obtain ⟨hc,hfz⟩:=bcell hb
  go_wp2
  refine bodyPost_ret (v := .tuple #[.agg #[.int .u8 0, .string ⟨#[]⟩, .int .i64 0, .int .i64 0], .int .i64 52]) (by simp [results,Tryz.results202,go_sem,hc]) rfl ⟨?_,?_⟩
  ·rw [HT.out,HN.out];rfl
  ·exact below4 (below1 hb) (Nat.le_refl _) _ _ _ _
theorem clone_any (s:ByteArray) (w:World) (hs:s.size≤281474976710656) :
  Calls Tryz.prog 204 #[.string s] w fun e w' => e = .returned (.string s)∧Below w.heap.size w w' := by
 go_enter Tryz.func204,Tryz.ntmps204
 go_wp2_with fail
 refine (Tryz.stringslite_Clone s _ hs).mono ?_
 rintro e w1 ⟨rfl,hb⟩
 go_wp2
 go_ret
 exact ⟨rfl,hb⟩
theorem ne_beq {s:ByteArray} {l:List UInt8} (h:¬ s.data.toList=l):(s.toList == l)=false:=by
 rw [Lib.toList_data];exact beq_eq_false_iff_ne.2 h
theorem eq_beq {s:ByteArray} {l:List UInt8} (h:s.data.toList=l):(s.toList == l)=true:=by
 rw [Lib.toList_data];exact beq_iff_eq.2 h
theorem word_any (s:ByteArray) (w:World) (hs:s.size≤281474976710656) (h0:0<s.size) (hE:EV w) :
  Calls Tryz.prog 195 #[.string s] w fun e w' => e = .returned (.tuple #[encT (word s.data.toList), .int .i64 (wordE s.data.toList)])∧Below w.heap.size w w' := by
 have HE:Hid (EV w):=hE
 have hm:s.size≤maxLen:=by unfold maxLen;omega
 have Hm:Hid _:=hm
 clear hE hm
 by_cases h1:s.data.toList=[46]
 ·have e1:=eq_beq h1
  have HT:Hid (word s.data.toList=tk 4):=by show _=_;simp [word,h1]
  have HN:Hid (wordE s.data.toList=0):=by show _=_;simp [wordE,h1]
  clear h1
  go_enter Tryz.func195,Tryz.ntmps195
  go_wp2_with fail
  refine bodyPost_ret (v := .tuple #[.agg #[.int .u8 4, .string ⟨#[]⟩, .int .i64 0, .int .i64 0], .int .i64 0]) (by simp [results,Tryz.results195,go_sem]) rfl ⟨?_,?_⟩
  ·rw [HT.out,HN.out];rfl
  ·exact (Below.refl _ w).alloc (Nat.le_refl _) _
 have e1:=ne_beq h1
 by_cases h2:s.data.toList=[35,116]
 ·have e2:=eq_beq h2
  have HT:Hid (word s.data.toList=tk 8):=by show _=_;simp [word,h2]
  have HN:Hid (wordE s.data.toList=0):=by show _=_;simp [wordE,h2]
  clear h1 h2
  go_enter Tryz.func195,Tryz.ntmps195
  go_wp2_with fail
  refine bodyPost_ret (v := .tuple #[.agg #[.int .u8 8, .string ⟨#[]⟩, .int .i64 0, .int .i64 0], .int .i64 0]) (by simp [results,Tryz.results195,go_sem]) rfl ⟨?_,?_⟩
  ·rw [HT.out,HN.out];rfl
  ·exact (Below.refl _ w).alloc (Nat.le_refl _) _
 have e2:=ne_beq h2
 by_cases h3:s.data.toList=[35,102]
 ·have e3:=eq_beq h3
  have HT:Hid (word s.data.toList=tk 7):=by show _=_;simp [word,h3]
  have HN:Hid (wordE s.data.toList=0):=by show _=_;simp [wordE,h3]
  clear h1 h2 h3
  go_enter Tryz.func195,Tryz.ntmps195
  go_wp2_with fail
  refine bodyPost_ret (v := .tuple #[.agg #[.int .u8 7, .string ⟨#[]⟩, .int .i64 0, .int .i64 0], .int .i64 0]) (by simp [results,Tryz.results195,go_sem]) rfl ⟨?_,?_⟩
  ·rw [HT.out,HN.out];rfl
  ·exact (Below.refl _ w).alloc (Nat.le_refl _) _
 have e3:=ne_beq h3
 have H1:Hid _:=h1
 have H2:Hid _:=h2
 have H3:Hid _:=h3
 clear h1 h2 h3
 cases h4:isNum s.data.toList
 ·have hn:Hid _:=h4
  have hb0:=byte_le s 0 h0
  have hd0:=drop_step s 0 h0
  rw [List.drop_zero] at hd0
  have HD0:Hid _:=hd0
  clear hd0
  cases h5:((s[0].toNat:Int) == 35)
  ·cases h6:begNum s.data.toList
   ·by_cases h7:32<s.size
    ·have hbad:bad s.data.toList=true:=by
      unfold bad;rw [←size_len];simp [h7]
     have HT:Hid (word s.data.toList=tk 0):=by show _=_;unfold word;rw [if_neg H1.out,if_neg H2.out,if_neg H3.out,hn.out,hbad];rfl
     have HN:Hid (wordE s.data.toList=51):=by show _=_;unfold wordE;rw [if_neg H1.out,if_neg H2.out,if_neg H3.out,hn.out,hbad];rfl
     clear hbad
     go_enter Tryz.func195,Tryz.ntmps195
     go_wp2_with (first|(go_at_call 201;refine (isNumber_any s _ Hm.out).mono ?_;rintro e w' ⟨rfl,rfl⟩)|(go_at_call 203;refine (begNum_any s _).mono ?_;rintro e w' ⟨rfl,rfl⟩))
     refine bodyPost_ret (v := .tuple #[.agg #[.int .u8 0, .string ⟨#[]⟩, .int .i64 0, .int .i64 0], .int .i64 51]) (by simp [results,Tryz.results195,go_sem]) rfl ⟨?_,?_⟩
     ·rw [HT.out,HN.out];rfl
     ·exact (Below.refl _ w).alloc (Nat.le_refl _) _
    ·have hbad:bad s.data.toList=false:=by
      have hh:hash s.data.toList=false:=by
       rw [HD0.out];simp only [hash];rw [beq_eq_false_iff_ne] at h5 ⊢; omega
      unfold bad;rw [←size_len,hh,h6];simp [h7]
     have HT:Hid (word s.data.toList=⟨6,s.data.toList,0,0⟩):=by show _=_;unfold word;rw [if_neg H1.out,if_neg H2.out,if_neg H3.out,hn.out,hbad];rfl
     have HN:Hid (wordE s.data.toList=0):=by show _=_;unfold wordE;rw [if_neg H1.out,if_neg H2.out,if_neg H3.out,hn.out,hbad];rfl
     clear hbad
     go_enter Tryz.func195,Tryz.ntmps195
     go_wp2_with (first|(go_at_call 201;refine (isNumber_any s _ Hm.out).mono ?_;rintro e w' ⟨rfl,rfl⟩)|(go_at_call 203;refine (begNum_any s _).mono ?_;rintro e w' ⟨rfl,rfl⟩))
     refine (clone_any s _ hs).mono ?_
     rintro e w1 ⟨rfl,hb⟩
     obtain ⟨hc,hfz⟩:=bcell hb
     go_wp2
     refine bodyPost_ret (v := .tuple #[.agg #[.int .u8 6, .string s, .int .i64 0, .int .i64 0], .int .i64 0]) (by simp [results,Tryz.results195,go_sem,hc]) rfl ⟨?_,?_⟩
     ·rw [HT.out,HN.out];rfl
     ·exact below4 (below1 hb) (Nat.le_refl _) _ _ _ _
   ·have hbad:bad s.data.toList=true:=by unfold bad;rw [h6];simp
    have HT:Hid (word s.data.toList=tk 0):=by show _=_;unfold word;rw [if_neg H1.out,if_neg H2.out,if_neg H3.out,hn.out,hbad];rfl
    have HN:Hid (wordE s.data.toList=51):=by show _=_;unfold wordE;rw [if_neg H1.out,if_neg H2.out,if_neg H3.out,hn.out,hbad];rfl
    clear hbad
    go_enter Tryz.func195,Tryz.ntmps195
    go_wp2_with (first|(go_at_call 201;refine (isNumber_any s _ Hm.out).mono ?_;rintro e w' ⟨rfl,rfl⟩)|(go_at_call 203;refine (begNum_any s _).mono ?_;rintro e w' ⟨rfl,rfl⟩))
    refine bodyPost_ret (v := .tuple #[.agg #[.int .u8 0, .string ⟨#[]⟩, .int .i64 0, .int .i64 0], .int .i64 51]) (by simp [results,Tryz.results195,go_sem]) rfl ⟨?_,?_⟩
    ·rw [HT.out,HN.out];rfl
    ·exact (Below.refl _ w).alloc (Nat.le_refl _) _
  ·have hbad:bad s.data.toList=true:=by
    have hh:hash s.data.toList=true:=by
     rw [HD0.out];simp only [hash];rw [beq_iff_eq] at h5 ⊢; omega
    unfold bad;rw [hh];simp
   have HT:Hid (word s.data.toList=tk 0):=by show _=_;unfold word;rw [if_neg H1.out,if_neg H2.out,if_neg H3.out,hn.out,hbad];rfl
   have HN:Hid (wordE s.data.toList=51):=by show _=_;unfold wordE;rw [if_neg H1.out,if_neg H2.out,if_neg H3.out,hn.out,hbad];rfl
   clear hbad
   go_enter Tryz.func195,Tryz.ntmps195
   go_wp2_with (first|(go_at_call 201;refine (isNumber_any s _ Hm.out).mono ?_;rintro e w' ⟨rfl,rfl⟩)|(go_at_call 203;refine (begNum_any s _).mono ?_;rintro e w' ⟨rfl,rfl⟩))
   refine bodyPost_ret (v := .tuple #[.agg #[.int .u8 0, .string ⟨#[]⟩, .int .i64 0, .int .i64 0], .int .i64 51]) (by simp [results,Tryz.results195,go_sem]) rfl ⟨?_,?_⟩
   ·rw [HT.out,HN.out];rfl
   ·exact (Below.refl _ w).alloc (Nat.le_refl _) _
 ·have Hn:Hid _:=h4
  have HT:Hid (word s.data.toList=numT s.data.toList):=by show _=_;unfold word;rw [if_neg H1.out,if_neg H2.out,if_neg H3.out,h4];rfl
  have HN:Hid (wordE s.data.toList=numE s.data.toList):=by show _=_;unfold wordE;rw [if_neg H1.out,if_neg H2.out,if_neg H3.out,h4];rfl
  go_enter Tryz.func195,Tryz.ntmps195
  go_wp2_with (go_at_call 201;refine (isNumber_any s _ Hm.out).mono ?_;rintro e w' ⟨rfl,rfl⟩)
  refine (number_any s _ hs Hn.out (HE.out.alloc _)).mono ?_
  rintro e w1 ⟨rfl,hb⟩
  obtain ⟨hc,hfz⟩:=bcell hb
  rw [encT]
  go_wp2
  refine bodyPost_ret (v := .tuple #[.agg #[.int .u8 (numT s.data.toList).kind,S (numT s.data.toList).text, .int .i64 (numT s.data.toList).n, .int .i64 (numT s.data.toList).pos], .int .i64 (numE s.data.toList)]) (by simp [results,Tryz.results195,go_sem,hc]) rfl ⟨?_,?_⟩
  ·rw [HT.out,HN.out];rfl
  ·exact below4 (below1 hb) (Nat.le_refl _) _ _ _ _
end Go.Proofs.YtkgnigloboajcaaGreatDoor
