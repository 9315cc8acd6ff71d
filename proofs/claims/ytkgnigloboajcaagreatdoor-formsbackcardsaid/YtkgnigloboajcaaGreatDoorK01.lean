/- The contracts of begin and IsSymbol.; The going through, step by step, as a plain function: what its steps are.; The iterator: its contract, for every loop body that keeps a token's block and what lay before. -/
import Derived.Test.YtkgnigloboajcaaGreatDoorK00
import Derived.RangeFuncNested
import Derived.RangeFuncBound
import Derived.RangeFuncCalls
import Derived.RangeFuncLeaves
import Derived.RangeFuncBox
import Derived.Shelf.Abstract
import Derived.Shelf.RegionOpen
import Derived.OwnWalkIn
import Derived.TacticsInMore
import Derived.LoopNIn
import Derived.LoopIn
set_option maxHeartbeats 1000000
namespace Go.Proofs.YtkgnigloboajcaaGreatDoor
open Go.RowKit
theorem extract_take (s:ByteArray) (k:Nat):(s.extract 0 k).data.toList=s.data.toList.take k:=by rw [Lib.extract_data];simp
theorem take_while_len (l:List UInt8):l.take (l.takeWhile isW).length=l.takeWhile isW:=by
 conv=>lhs;arg 2;rw [←List.takeWhile_append_dropWhile (p:=isW) (l:=l)]
 rw [List.take_left'];rfl
theorem begin_any (s:ByteArray) (w:World) (hs:s.size≤281474976710656) (hE:EV w) :
  Calls Tryz.prog 188 #[.string s] w fun e w' => e = .returned (.tuple #[encT (begT s.data.toList), .int .i64 (begS s.data.toList:Nat), .int .i64 (begE s.data.toList)])∧Below w.heap.size w w' := by
 have HE:Hid (EV w):=hE
 have hm:s.size≤maxLen:=by unfold maxLen;omega
 have Hm:Hid _:=hm
 clear hE hm
 by_cases h0:s.size=0
 ·have he:s.toList.isEmpty=true:=by rw [Lib.toList_data,List.isEmpty_iff_length_eq_zero, ←size_len];exact h0
  have hl:s.data.toList=[]:=by rw [←List.length_eq_zero_iff, ←size_len];exact h0
  have HT:Hid (begT s.data.toList=tk 9):=by show _=_;rw [hl];rfl
  have HS:Hid (begS s.data.toList=0):=by show _=_;rw [hl];rfl
  have HN:Hid (begE s.data.toList=0):=by show _=_;rw [hl];rfl
  clear h0 hl
  go_enter Tryz.func188,Tryz.ntmps188
  go_wp2_with fail
  refine bodyPost_ret (v := .tuple #[.agg #[.int .u8 9, .string ⟨#[]⟩, .int .i64 0, .int .i64 0], .int .i64 0, .int .i64 0]) (by simp [results,Tryz.results188,go_sem]) rfl ⟨?_,?_⟩
  ·rw [HT.out,HS.out,HN.out];rfl
  ·exact (Below.refl _ w).alloc (Nat.le_refl _) _
 have hlt:0<s.size:=by omega
 have he:s.toList.isEmpty=false:=by
  rw [Lib.toList_data,Bool.eq_false_iff];intro h;rw [List.isEmpty_iff_length_eq_zero, ←size_len] at h;exact h0 h
 have hb0:=byte_le s 0 hlt
 have hd0:=drop_step s 0 hlt
 rw [List.drop_zero] at hd0
 have HD0:Hid _:=hd0
 clear hd0 h0
 by_cases c1:(s[0].toNat:Int)=40
 ·have c1n:s[0].toNat=40:=by omega
  have e1:((s[0].toNat:Int) == 40)=true:=beq_iff_eq.2 c1
  have HT:Hid (begT s.data.toList=tk 1):=by show _=_;rw [HD0.out];simp only [begT];rw [if_pos c1n]
  have HS:Hid (begS s.data.toList=1):=by show _=_;rw [HD0.out];simp only [begS];rw [if_pos c1n]
  have HN:Hid (begE s.data.toList=0):=by show _=_;rw [HD0.out];simp only [begE];rw [if_pos c1n]
  clear c1 c1n
  go_enter Tryz.func188,Tryz.ntmps188
  go_wp2_with fail
  refine bodyPost_ret (v := .tuple #[.agg #[.int .u8 1, .string ⟨#[]⟩, .int .i64 0, .int .i64 0], .int .i64 1, .int .i64 0]) (by simp [results,Tryz.results188,go_sem]) rfl ⟨?_,?_⟩
  ·rw [HT.out,HS.out,HN.out];rfl
  ·exact (Below.refl _ w).alloc (Nat.le_refl _) _
 have n1:¬ s[0].toNat=40:=by omega
 have e1:((s[0].toNat:Int) == 40)=false:=beq_eq_false_iff_ne.2 c1
 by_cases c2:(s[0].toNat:Int)=41
 ·have c2n:s[0].toNat=41:=by omega
  have e2:((s[0].toNat:Int) == 41)=true:=beq_iff_eq.2 c2
  have HT:Hid (begT s.data.toList=tk 2):=by show _=_;rw [HD0.out];simp only [begT];rw [if_neg n1,if_pos c2n]
  have HS:Hid (begS s.data.toList=1):=by show _=_;rw [HD0.out];simp only [begS];rw [if_neg n1,if_pos c2n]
  have HN:Hid (begE s.data.toList=0):=by show _=_;rw [HD0.out];simp only [begE];rw [if_neg n1,if_pos c2n]
  clear c1 n1 c2 c2n
  go_enter Tryz.func188,Tryz.ntmps188
  go_wp2_with fail
  refine bodyPost_ret (v := .tuple #[.agg #[.int .u8 2, .string ⟨#[]⟩, .int .i64 0, .int .i64 0], .int .i64 1, .int .i64 0]) (by simp [results,Tryz.results188,go_sem]) rfl ⟨?_,?_⟩
  ·rw [HT.out,HS.out,HN.out];rfl
  ·exact (Below.refl _ w).alloc (Nat.le_refl _) _
 have n2:¬ s[0].toNat=41:=by omega
 have e2:((s[0].toNat:Int) == 41)=false:=beq_eq_false_iff_ne.2 c2
 by_cases c3:(s[0].toNat:Int)=39
 ·have c3n:s[0].toNat=39:=by omega
  have e3:((s[0].toNat:Int) == 39)=true:=beq_iff_eq.2 c3
  have HT:Hid (begT s.data.toList=tk 3):=by show _=_;rw [HD0.out];simp only [begT];rw [if_neg n1,if_neg n2,if_pos c3n]
  have HS:Hid (begS s.data.toList=1):=by show _=_;rw [HD0.out];simp only [begS];rw [if_neg n1,if_neg n2,if_pos c3n]
  have HN:Hid (begE s.data.toList=0):=by show _=_;rw [HD0.out];simp only [begE];rw [if_neg n1,if_neg n2,if_pos c3n]
  clear c1 n1 c2 n2 c3 c3n
  go_enter Tryz.func188,Tryz.ntmps188
  go_wp2_with fail
  refine bodyPost_ret (v := .tuple #[.agg #[.int .u8 3, .string ⟨#[]⟩, .int .i64 0, .int .i64 0], .int .i64 1, .int .i64 0]) (by simp [results,Tryz.results188,go_sem]) rfl ⟨?_,?_⟩
  ·rw [HT.out,HS.out,HN.out];rfl
  ·exact (Below.refl _ w).alloc (Nat.le_refl _) _
 have n3:¬ s[0].toNat=39:=by omega
 have e3:((s[0].toNat:Int) == 39)=false:=beq_eq_false_iff_ne.2 c3
 clear c1 c2 c3
 cases hw:isWI s[0].toNat
 ·have hw' : isW s[0]=false:=hw
  have HT:Hid (begT s.data.toList=tk 0):=by show _=_;rw [HD0.out];simp only [begT];rw [if_neg n1,if_neg n2,if_neg n3,hw'];rfl
  have HS:Hid (begS s.data.toList=0):=by show _=_;rw [HD0.out];simp only [begS];rw [if_neg n1,if_neg n2,if_neg n3,hw'];rfl
  have HN:Hid (begE s.data.toList=50):=by show _=_;rw [HD0.out];simp only [begE];rw [if_neg n1,if_neg n2,if_neg n3,hw'];rfl
  clear n1 n2 n3 hw'
  go_enter Tryz.func188,Tryz.ntmps188
  go_wp2_with (go_at_call 193;refine (isOfWord_any _ _ (by omega) (by omega)).mono ?_;rintro e w' ⟨rfl,rfl⟩)
  refine bodyPost_ret (v := .tuple #[.agg #[.int .u8 0, .string ⟨#[]⟩, .int .i64 0, .int .i64 0], .int .i64 0, .int .i64 50]) (by simp [results,Tryz.results188,go_sem]) rfl ⟨?_,?_⟩
  ·rw [HT.out,HS.out,HN.out];rfl
  ·exact (Below.refl _ w).alloc (Nat.le_refl _) _
 ·have hw' : isW s[0]=true:=hw
  have HT:Hid (begT s.data.toList=word (s.data.toList.takeWhile isW)):=by show _=_;rw [HD0.out];simp only [begT];rw [if_neg n1,if_neg n2,if_neg n3,hw'];rfl
  have HS:Hid (begS s.data.toList=(s.data.toList.takeWhile isW).length):=by show _=_;rw [HD0.out];simp only [begS];rw [if_neg n1,if_neg n2,if_neg n3,hw'];rfl
  have HN:Hid (begE s.data.toList=wordE (s.data.toList.takeWhile isW)):=by show _=_;rw [HD0.out];simp only [begE];rw [if_neg n1,if_neg n2,if_neg n3,hw'];rfl
  clear n1 n2 n3
  have hk:(s.data.toList.takeWhile isW).length≤s.size:=by rw [size_len];exact (List.takeWhile_sublist _).length_le
  have hk1:0<(s.data.toList.takeWhile isW).length:=by rw [HD0.out];simp [hw']
  have ht:=extract_take s (s.data.toList.takeWhile isW).length
  rw [take_while_len] at ht
  have Ht:Hid _:=ht
  clear hw' ht
  go_enter Tryz.func188,Tryz.ntmps188
  go_wp2_with (first|(go_at_call 193;refine (isOfWord_any _ _ (by omega) (by omega)).mono ?_;rintro e w' ⟨rfl,rfl⟩)|(go_at_call 194;refine (wordSize_any s _ Hm.out).mono ?_;rintro e w' ⟨rfl,rfl⟩))
  have hx:(s.extract 0 (s.data.toList.takeWhile isW).length).size=(s.data.toList.takeWhile isW).length:=by rw [size_len,Ht.out]
  refine (word_any (s.extract 0 (s.data.toList.takeWhile isW).length) _ (by rw [hx];omega) (by rw [hx];omega) (HE.out.alloc _)).mono ?_
  rintro e w1 ⟨rfl,hb⟩
  rw [Ht.out]
  clear hx
  generalize hl:s.data.toList.takeWhile isW=l at *
  clear hl
  obtain ⟨hc,hfz⟩:=bcell hb
  have hz:w.heap.size<w1.heap.size:=by have:=hb.size;simp at this;omega
  rw [encT]
  go_wp2
  refine bodyPost_ret (v := .tuple #[.agg #[.int .u8 (word l).kind,S (word l).text, .int .i64 (word l).n, .int .i64 (word l).pos], .int .i64 (l.length:Nat), .int .i64 (wordE l)]) (by simp [results,Tryz.results188,go_sem,hc,hz]) rfl ⟨?_,?_⟩
  ·rw [HT.out,HS.out,HN.out];rfl
  ·exact (below4 (below1 hb) (Nat.le_refl _) _ _ _ _).alloc (Nat.le_trans (Nat.le_of_lt hz) (by simp [World.setCell])) _
theorem isSymbol_any (s:ByteArray) (w:World) (hs:s.size≤281474976710656) (hE:EV w) :
  Calls Tryz.prog 180 #[.string s] w fun e w' => e = .returned (.bool (begE s.data.toList == 0 && ((begT s.data.toList).kind == 6 && ((begS s.data.toList:Nat):Int) == (s.size:Int))))∧Below w.heap.size w w' := by
 go_enter Tryz.func180,Tryz.ntmps180
 go_wp2_with fail
 refine (begin_any s _ hs hE).mono ?_
 rintro e w1 ⟨rfl,hb⟩
 rw [encT]
 cases h1:(begE s.data.toList == 0)
 all_goals cases h2:((begT s.data.toList).kind == 6)
 all_goals cases h3:(((begS s.data.toList:Nat):Int) == (s.size:Int))
 all_goals
  go_wp2
  go_ret
  refine ⟨ret_bool (by simp [h1,h2,h3]),?_⟩
  exact hb.alloc hb.size _
open Go.RowKit Go.Shelf
attribute [local go_sem] Oper.semAt_some
end Go.Proofs.YtkgnigloboajcaaGreatDoor
