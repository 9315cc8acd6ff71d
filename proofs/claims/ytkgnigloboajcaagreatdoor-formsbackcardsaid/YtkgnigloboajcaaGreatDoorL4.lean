/- The document's Keyword.; The document's Back: its small functions.; The document's Back: names that may be bound, keywords, an empty datum.; The document's shape of a term is the program's.; What the document asks of a term is what the program asks.; The document's shape.; The document's term. -/
import Derived.Test.YtkgnigloboajcaaGreatDoorK41
import Derived.Test.YtkgnigloboajcaaGreatDoorL3
import Derived.Deep.CutBlock
import Derived.Test.YtkgnigloboajcaaGreatDoorL1
import Derived.Deep.QuietTactic
import Derived.BigQuiet
set_option maxRecDepth 100000
set_option maxHeartbeats 8000000
namespace Go.Proofs.YtkgnigloboajcaaGreatDoor
open Go.RowKit
def kwL:List (List UInt8):=[[113,117,111,116,101],[105,102],[108,97,109,98,100,97],[100,101,102,105,110,101],[115,101,116,33],[98,101,103,105,110],[108,101,116],[119,104,105,108,101],[115,112,97,119,110],[106,111,105,110],[108,111,99,107],[117,110,108,111,99,107],[121,105,101,108,100]]
def kwB (s:List UInt8):Bool:=kwL.any (· == s)
theorem kwL_at {j:Nat} (h:j<13):kwL[j]?=some (kwL.getD j []):=by
 have e:j<kwL.length:=h
 simp [List.getD_eq_getElem?_getD,e]
theorem kw_is (s:List UInt8):(kwOf s).isSome=kwB s:=by
 unfold kwOf kwB
 by_cases h:s=[]
 ·subst h;rfl
 ·rw [if_neg h,Option.isSome_map,List.findIdx?_isSome]
  have h' : ([] == s)=false:=by
   cases s with
   | nil=>exact absurd rfl h
   | cons a r=>rfl
  simp only [shpL,kwL,List.any_cons,List.any_nil,h', Bool.false_or]
theorem kwB_at {s:List UInt8} {j:Nat} (h:j<13) (hx:kwL.getD j []=s):kwB s=true:=by
 unfold kwB
 rw [List.any_eq_true]
 refine ⟨s,?_,by simp⟩
 have:=kwL_at h
 rw [hx] at this
 exact List.mem_of_getElem? this
theorem kwB_none {s:List UInt8} (h:∀i,i<13→kwL.getD i []≠s):kwB s=false:=by
 unfold kwB
 rw [List.any_eq_false]
 intro x hx he
 obtain ⟨j,hj⟩:=List.getElem?_of_mem hx
 have hl:j<13:=(List.getElem?_eq_some_iff.1 hj).1
 have:=kwL_at hl
 rw [hj] at this
 exact h j hl ((Option.some.inj this).symm.trans (by simpa using he))
theorem rx_newk {α : Type} {enc : α → Value} {l:List α} {W:World} {g:Nat} {A:Array Value} {t:TypeId} (q:W.heap[g]?=some (.cells A t (0,0))) (h:A.toList=l.map enc):RX enc W (some ⟨g,0,none⟩) l:=by
 refine ⟨g,0, .inr rfl,fun j x hx=>⟨(Array.getElem?_eq_some_iff.1 q).1,?_⟩⟩
 have e:A[j]?=some (enc x):=by
  rw [←Array.getElem?_toList,h,List.getElem?_map,hx];rfl
 simp [World.cell?,q,e]
theorem rwords_any (w:World):Calls Tryz.prog 95 #[] w fun e w' => ∃g1,e = .returned (.slice (some ⟨g1,0,none⟩) 13 13)∧RX S w' (some ⟨g1,0,none⟩) kwL∧Below w.heap.size w w' := by
 go_enter Tryz.func95,Tryz.ntmps95
 go_wp2
 go_ret
 exact ⟨_,rfl,rx_newk (World.alloc_heap_new w _) rfl,(Below.refl _ w).alloc (Nat.le_refl _) _⟩
theorem rkey_any (s:List UInt8) (w:World) (hs:s.length≤maxLen) :
  Calls Tryz.prog 39 #[S s] w fun e w' => e = .returned (.bool (kwB s))∧Below w.heap.size w w' := by
 go_enter Tryz.func39,Tryz.ntmps39
 go_wp2_with fail
 refine (rwords_any w).mono ?_
 rintro e w1 ⟨g1,rfl,h1,hb⟩
 obtain ⟨b1,o1,z1,r1⟩:=h1
 have e1:(some ⟨g1,0,none⟩:Option Addr)=some ⟨b1,o1,none⟩:=z1.resolve_left (by decide)
 cases e1
 have R1:Hid (∀(j:Nat) (x:List UInt8),kwL[j]?=some x→g1<w1.heap.size∧w1.cell? ⟨g1,0+j,none⟩=some (S x)):=r1
 have HB:Hid (Below w.heap.size w w1):=hb
 clear r1 hb z1
 go_wp2_with fail
 go_loopw [4] (fun v wr=>∃j:Nat,v = .int .i64 j∧j≤13∧Hid (∀i,i<j→kwL.getD i []≠s)∧wr=w1) (fun v _=>14-(intOf v).toNat)
 case atStart=>exact ⟨0,rfl,by omega,fun i hi=>absurd hi (by omega),rfl⟩
 case round =>
  obtain ⟨j,rfl,hj,HN,rfl⟩:=hrel
  by_cases hlt:j<13
  ·have k1:(j:Int)<13:=by omega
   have k0:(0:Int)≤(j:Int):=by omega
   obtain ⟨l1,c0⟩:=R1.out j _ (kwL_at hlt)
   rw [Nat.zero_add] at c0
   obtain ⟨x,hx⟩:∃x,kwL.getD j []=x:=⟨_,rfl⟩
   rw [hx] at c0
   have HX:Hid _:=hx
   by_cases he:x=s
   ·subst he
    have HK:Hid (kwB x=true):=kwB_at hlt HX.out
    clear hx
    go_wp2
    go_ret
    exact ⟨by rw [HK.out];rfl,HB.out⟩
   ·have h2:(x == s)=false:=beq_eq_false_iff_ne.2 he
    have HN2:Hid (∀i,i<j+1→kwL.getD i []≠s):=fun i hi=>by
     rcases Nat.lt_or_ge i j with h|h
     ·exact HN.out i h
     ·obtain rfl:i=j:=by omega
      rw [HX.out];exact he
    clear he hx
    go_wp2
    go_roundw
    case rel=>exact ⟨j+1,by go_num,by omega,HN2,trivial⟩
    case measure=>simp [intOf];omega
  ·have k1:¬ (j:Int)<13:=by omega
   have HK:Hid (kwB s=false):=kwB_none (fun i hi=>HN.out i (by omega))
   go_wp2
   go_ret
   exact ⟨by rw [HK.out];rfl,HB.out⟩
theorem rsym_any (t:List UInt8) (w:World):Calls Tryz.prog 115 #[S t] w fun e w' => e = .returned (.agg #[.int .u8 2, .int .i64 0,S t, .slice none 0 0, .bool false])∧Below w.heap.size w w' := by
 go_enter Tryz.func115,Tryz.ntmps115
 go_wp2
 refine bodyPost_ret (v := .agg #[.int .u8 2, .int .i64 0,S t, .slice none 0 0, .bool false]) (by simp [results,Tryz.results115,go_sem]) rfl ⟨rfl,?_⟩
 exact (Below.refl _ _).alloc (Nat.le_refl _) _
theorem rlist_any (ra:Option Addr) (n c:Nat) (w:World):Calls Tryz.prog 118 #[.slice ra n c] w fun e w' => e = .returned (.agg #[.int .u8 5, .int .i64 0,S [], .slice ra n c, .bool false])∧Below w.heap.size w w' := by
 go_enter Tryz.func118,Tryz.ntmps118
 go_wp2
 refine bodyPost_ret (v := .agg #[.int .u8 5, .int .i64 0,S [], .slice ra n c, .bool false]) (by simp [results,Tryz.results118,go_sem]) rfl ⟨rfl,?_⟩
 exact (Below.refl _ _).alloc (Nat.le_refl _) _
theorem right_any (x:Dt) (rk:Option Addr) (ck:Nat) (w:World) (hs:x.s.size≤999999) (ht:x.t.length≤281474976710656) (htx:x.s.tx) (hR:RS w rk x.s) :
  Calls Tryz.prog 77 #[datV x (.slice rk x.s.len ck)] w fun e w' => e = .returned (.bool (canB x))∧Below w.heap.size w w' := by
 have hl:x.s.len≤maxLen:=by have:=Fo.len_size x.s;unfold maxLen;omega
 obtain ⟨W1,hW1⟩:∃W1,w.alloc (boxD x (.slice rk x.s.len ck))=W1:=⟨_,rfl⟩
 have a1:=(Below.refl _ w).alloc (Nat.le_refl w.heap.size) (boxD x (.slice rk x.s.len ck))
 have q0:=World.alloc_heap_new w (boxD x (.slice rk x.s.len ck))
 rw [hW1] at a1 q0
 have HB1:Hid (Below w.heap.size w W1):=a1
 have HC:Hid (∀(W2:World) (g:Nat),Below W1.heap.size W1 W2→W2.heap[g]?=some (.cells #[.int .u8 x.k, .int .i64 x.n,S x.t, .slice rk x.s.len ck, .bool x.d] 32 (0,0)) →
   Calls Tryz.prog 45 #[.slice (some ⟨g,0,none⟩) 1 1] W2 fun e w' => e = .returned (.tuple #[S (writeOf (x.fo .nil)).1, .int .i64 (writeOf (x.fo .nil)).2])∧Below W2.heap.size W2 w'):=fun W2 g hb hg=>by
  obtain ⟨c0,c1,c2,c3,c4,_⟩:=cells5 hg
  obtain ⟨b', o', hz,hr⟩:=(hR.below a1).below hb
  exact refWrite_any (some ⟨g,0,none⟩) 1 (x.fo .nil) W2 (by simp only [Dt.fo,Fo.size];omega) (by show 1≤maxLen;unfold maxLen;omega) ⟨ht,htx,trivial⟩ ⟨g,0, .inr rfl,⟨⟨cell_lt c0,c0,c1,c2,c4,hl⟩,⟨rk,ck,b', o', c3,hz,hr⟩,trivial⟩⟩
 obtain ⟨c0,c1,c2,c3,c4,_⟩:=cells5 q0
 clear hR hs ht htx hl a1 q0
 go_enter Tryz.func77,Tryz.ntmps77
 go_upto_region 1 with fail
 clear hW1
 go_wp2_with fail
 refine (HC.out _ _ ((Below.refl _ _).alloc (Nat.le_refl _) _) (World.alloc_heap_new _ _)).mono ?_
 rintro e w2 ⟨rfl,hb2⟩
 have HB2:Hid (Below w.heap.size w w2):=HB1.out.trans ((((Below.refl _ _).alloc (Nat.le_refl _) _).trans (hb2.mono (by simp))).mono HB1.out.size)
 clear hb2 c0 c1 c2 c3 c4 HC
 go_wp2_with fail
 go_ret
 exact ⟨rfl,HB2.out⟩
def varD (x:Dt):Bool:=x.k == 2 && (primOf x.t).isNone && !kwB x.t
theorem rvar_any (x:Dt) (sv:Value) (w:World) (ht:x.t.length≤maxLen) :
  Calls Tryz.prog 139 #[datV x sv] w fun e w' => e = .returned (.bool (varD x))∧Below w.heap.size w w' := by
 obtain ⟨W1,hW1⟩:∃W1,w.alloc (boxD x sv)=W1:=⟨_,rfl⟩
 have a1:=(Below.refl _ w).alloc (Nat.le_refl w.heap.size) (boxD x sv)
 have q0:=World.alloc_heap_new w (boxD x sv)
 rw [hW1] at a1 q0
 have HB1:Hid (Below w.heap.size w W1):=a1
 have HQ1:Hid _:=q0
 have HV:Hid (varD x=(x.k == 2 && (primOf x.t).isNone && !kwB x.t)):=rfl
 have HT:Hid (x.t.length≤maxLen):=ht
 obtain ⟨c0,c1,c2,c3,c4,_⟩:=cells5 q0
 have lq:=cell_lt c0
 clear a1 q0 ht
 go_enter Tryz.func139,Tryz.ntmps139
 go_upto_region 1 with fail
 clear hW1
 obtain ⟨bq,hbq⟩:∃b,w.heap.size=b:=⟨_,rfl⟩
 rw [hbq] at HQ1 c0 c1 c2 c3 c4 lq ⊢
 go_wp2_with fail
 refine (rprim_any x.t W1 HT.out).mono ?_
 rintro e w2 ⟨rfl,hb2⟩
 have HB2:Hid (Below w.heap.size w w2):=HB1.out.trans (hb2.mono HB1.out.size)
 have HQ2:Hid _:=(hb2.block _ (Array.getElem?_eq_some_iff.1 HQ1.out).1).trans HQ1.out
 clear hb2 c0 c1 c2 c3 c4 lq
 obtain ⟨c0,c1,c2,c3,c4,_⟩:=cells5 HQ2.out
 have lq:=cell_lt c0
 obtain ⟨pv,pn,pb,hpv,hpb⟩:∃(pv:Nat) (pn:Int) (pb:Bool),primV (primOf x.t) = .tuple #[.int .u8 pv, .int .i64 pn, .bool pb]∧pb=(primOf x.t).isSome:=by
  cases primOf x.t with
  | none=>exact ⟨0,0,false,rfl,rfl⟩
  | some p=>exact ⟨p,argsOf p,true,rfl,rfl⟩
 rw [hpv]
 have HP:Hid (pb=(primOf x.t).isSome):=hpb
 clear hpv hpb
 go_wp2_with fail
 refine (rkey_any x.t w2 HT.out).mono ?_
 rintro e w3 ⟨rfl,hb3⟩
 have HB3:Hid (Below w.heap.size w w3):=HB2.out.trans (hb3.mono HB2.out.size)
 have HQ3:Hid _:=(hb3.block _ (Array.getElem?_eq_some_iff.1 HQ2.out).1).trans HQ2.out
 clear hb3 c0 c1 c2 c3 c4 lq
 obtain ⟨c0,c1,c2,c3,c4,_⟩:=cells5 HQ3.out
 have lq:=cell_lt c0
 obtain ⟨kb,hkb⟩:∃b,kwB x.t=b:=⟨_,rfl⟩
 rw [hkb] at HV ⊢
 have HV2:Hid (varD x=(x.k == 2 && !pb && !kb)):=by
  show _=_
  rw [HV.out,HP.out]
  cases primOf x.t<;>rfl
 clear hkb HV HP
 cases hk:x.k == 2 with
 | false =>
  have HK:Hid _:=hk
  go_wp2_with fail
  go_ret
  exact ⟨by rw [HV2.out,HK.out];rfl,HB3.out⟩
 | true =>
  have HK:Hid _:=hk
  cases pb with
  | true =>
   go_wp2_with fail
   go_ret
   exact ⟨by rw [HV2.out,HK.out];rfl,HB3.out⟩
  | false =>
   go_wp2_with fail
   go_ret
   exact ⟨by rw [HV2.out,HK.out];simp,HB3.out⟩
theorem var_eq (s:List UInt8):varB s=(canB ⟨2,0,s, .nil,false⟩ && varD ⟨2,0,s, .nil,false⟩):=by
 show ((primOf s).isNone && ((kwOf s).isNone && canB ⟨2,0,s, .nil,false⟩))=(canB ⟨2,0,s, .nil,false⟩ && ((2:Int) == 2 && (primOf s).isNone && !kwB s))
 rw [←kw_is s]
 cases canB ⟨2,0,s, .nil,false⟩<;>cases primOf s<;>cases kwOf s<;>rfl
theorem rbound_any (s:List UInt8) (w:World) (hs:s.length≤281474976710656) :
  Calls Tryz.prog 116 #[S s] w fun e w' => e = .returned (.bool (varB s))∧Below w.heap.size w w' := by
 have HS:Hid (s.length≤281474976710656):=hs
 clear hs
 go_enter Tryz.func116,Tryz.ntmps116
 go_wp2_with fail
 refine (rsym_any s w).mono ?_
 rintro e w1 ⟨rfl,hb1⟩
 have HB1:Hid (Below w.heap.size w w1):=hb1
 clear hb1
 go_upto_region 2 with fail
 obtain ⟨W2,hW2⟩:∃W,w1.alloc (boxD ⟨2,0,s, .nil,false⟩ (.slice none 0 0))=W:=⟨_,rfl⟩
 have a2:=(Below.refl _ w1).alloc (Nat.le_refl w1.heap.size) (boxD ⟨2,0,s, .nil,false⟩ (.slice none 0 0))
 have q2:=World.alloc_heap_new w1 (boxD ⟨2,0,s, .nil,false⟩ (.slice none 0 0))
 rw [hW2] at a2 q2 ⊢
 obtain ⟨b2,hb2⟩:∃b,w1.heap.size=b:=⟨_,rfl⟩
 have HB2:Hid (Below w.heap.size w W2):=HB1.out.trans (a2.mono HB1.out.size)
 rw [hb2] at q2 ⊢
 have HQ2:Hid _:=q2
 clear a2 hW2 hb2 q2
 obtain ⟨c0,c1,c2,c3,c4,_⟩:=cells5 HQ2.out
 go_wp2_with fail
 refine (right_any ⟨2,0,s, .nil,false⟩ none 0 W2 (by show 0≤999999;omega) HS.out trivial (rs_nil _ _)).mono ?_
 rintro e w3 ⟨rfl,hb3⟩
 have HB3:Hid (Below w.heap.size w w3):=HB2.out.trans (hb3.mono HB2.out.size)
 have HQ3:Hid _:=(hb3.block _ (Array.getElem?_eq_some_iff.1 HQ2.out).1).trans HQ2.out
 clear hb3 c0 c1 c2 c3 c4
 obtain ⟨c0,c1,c2,c3,c4,_⟩:=cells5 HQ3.out
 go_wp2_with fail
 refine (rvar_any ⟨2,0,s, .nil,false⟩ (.slice none 0 0) w3 (by have:=HS.out;show s.length≤maxLen;unfold maxLen;omega)).mono ?_
 rintro e w4 ⟨rfl,hb4⟩
 have HB4:Hid (Below w.heap.size w w4):=HB3.out.trans (hb4.mono HB3.out.size)
 have HV:Hid (varB s=(canB ⟨2,0,s, .nil,false⟩ && varD ⟨2,0,s, .nil,false⟩)):=var_eq s
 obtain ⟨p,hp⟩:∃p,canB ⟨2,0,s, .nil,false⟩=p:=⟨_,rfl⟩
 obtain ⟨q,hq⟩:∃q,varD ⟨2,0,s, .nil,false⟩=q:=⟨_,rfl⟩
 rw [hp,hq] at HV
 rw [hp,hq]
 clear hb4 c0 c1 c2 c3 c4 hp hq
 cases p with
 | false =>
  go_wp2_with fail
  go_ret
  exact ⟨by rw [HV.out];rfl,HB4.out⟩
 | true =>
  go_wp2_with fail
  go_ret
  exact ⟨by rw [HV.out];rfl,HB4.out⟩
def emptyB (x:Dt):Bool:=x.k == 0 && (x.n == 0 && (x.t == [] && (x.s.len == 0 && !x.d)))
theorem rempty_any (x:Dt) (rk:Option Addr) (ck:Nat) (w:World) :
  Calls Tryz.prog 152 #[datV x (.slice rk x.s.len ck)] w fun e w' => e = .returned (.bool (emptyB x))∧Below w.heap.size w w' := by
 obtain ⟨W1,hW1⟩:∃W1,w.alloc (boxD x (.slice rk x.s.len ck))=W1:=⟨_,rfl⟩
 have a1:=(Below.refl _ w).alloc (Nat.le_refl w.heap.size) (boxD x (.slice rk x.s.len ck))
 have q0:=World.alloc_heap_new w (boxD x (.slice rk x.s.len ck))
 rw [hW1] at a1 q0
 have HB1:Hid (Below w.heap.size w W1):=a1
 have HV:Hid (emptyB x=(x.k == 0 && (x.n == 0 && (x.t == [] && (x.s.len == 0 && !x.d))))):=rfl
 obtain ⟨c0,c1,c2,c3,c4,_⟩:=cells5 q0
 have lq:=cell_lt c0
 clear a1 q0
 go_enter Tryz.func152,Tryz.ntmps152
 go_upto_region 1 with fail
 clear hW1
 cases hk:x.k == 0 with
 | false =>
  have HK:Hid _:=hk
  go_wp2_with fail
  go_ret
  exact ⟨by rw [HV.out,HK.out];rfl,HB1.out⟩
 | true =>
 have HK:Hid _:=hk
 cases hn:x.n == 0 with
 | false =>
  have HN:Hid _:=hn
  go_wp2_with fail
  go_ret
  exact ⟨by rw [HV.out,HK.out,HN.out];rfl,HB1.out⟩
 | true =>
 have HN:Hid _:=hn
 cases ht:x.t == [] with
 | false =>
  have HT:Hid _:=ht
  go_wp2_with fail
  go_ret
  exact ⟨by rw [HV.out,HK.out,HN.out,HT.out];rfl,HB1.out⟩
 | true =>
 have HT:Hid _:=ht
 cases hl:x.s.len == 0 with
 | false =>
  have HL:Hid _:=hl
  have hl2:((x.s.len:Int) == 0)=false:=by
   have:¬ x.s.len=0:=by simpa using hl
   simpa using fun h=>this (by omega)
  go_wp2_with fail
  go_ret
  exact ⟨by rw [HV.out,HK.out,HN.out,HT.out,HL.out];rfl,HB1.out⟩
 | true =>
  have HL:Hid _:=hl
  have hl2:((x.s.len:Int) == 0)=true:=by
   have:x.s.len=0:=by simpa using hl
   simp [this]
  go_wp2_with fail
  go_ret
  exact ⟨by rw [HV.out,HK.out,HN.out,HT.out,HL.out];simp,HB1.out⟩
theorem rword_any (k:Int) (w:World) (h0:3≤k) (h1:k≤15) (h2:k≠10) :
  Calls Tryz.prog 119 #[.int .u8 k] w fun e w' => e = .returned (S (shpOf k.toNat).1)∧w' = w:=by
 have h:k=3∨k=4∨k=5∨k=6∨k=7∨k=8∨k=9∨k=11∨k=12∨k=13∨k=14∨k=15:=by omega
 clear h0 h1 h2
 rcases h with rfl|rfl|rfl|rfl|rfl|rfl|rfl|rfl|rfl|rfl|rfl|rfl
 all_goals
  go_enter Tryz.func119,Tryz.ntmps119
  go_wp2_with fail
  go_ret
  exact ⟨rfl,rfl⟩
theorem ramong_any (l:List (List UInt8)) (s:List UInt8) (ra:Option Addr) (ca:Nat) (w:World) (hm:l.length≤maxLen) (hR:RX S w ra l) :
  Calls Tryz.prog 117 #[.slice ra l.length ca,S s] w fun e w' => e = .returned (.bool (decide (s∈l)))∧w' = w:=by
 obtain ⟨b,o,h1,h2⟩:=RX.at hR
 have H1:Hid _:=h1
 have H2:Hid _:=h2
 unfold maxLen at hm
 clear h1 h2 hR
 go_enter Tryz.func117,Tryz.ntmps117
 go_upto_region 2 with fail
 go_loopw [5] (fun v wr=>∃j:Nat,v = .int .i64 j∧j≤l.length∧Hid (∀i,i<j→l[i]?≠some s)∧wr=w) (fun v _=>l.length-(intOf v).toNat)
 case atStart=>exact ⟨0,rfl,Nat.zero_le _,fun i hi=>absurd hi (by omega),rfl⟩
 case round =>
  obtain ⟨j,rfl,hj,HN,rfl⟩:=hrel
  by_cases hlt:j<l.length
  ·have i1:(j:Int)<(l.length:Int):=by omega
   have hra:=H1.out (by omega)
   subst hra
   obtain ⟨x,hx⟩:∃x,l[j]?=some x:=⟨_,List.getElem?_eq_getElem hlt⟩
   obtain ⟨hb,hc⟩:=H2.out j x hx
   have HX:Hid _:=hx
   by_cases he:x=s
   ·subst he
    have HM:Hid (x∈l):=List.mem_of_getElem? HX.out
    clear hx
    go_wp2_with fail
    go_ret
    exact ⟨by rw [decide_eq_true HM.out];rfl,rfl⟩
   ·have h2:(x == s)=false:=beq_eq_false_iff_ne.2 he
    have HN2:Hid (∀i,i<j+1→l[i]?≠some s):=fun i hi=>by
     rcases Nat.lt_or_ge i j with h|h
     ·exact HN.out i h
     ·obtain rfl:i=j:=by omega
      rw [HX.out];exact fun e=>he (Option.some.inj e)
    clear hx he
    go_wp2_with fail
    go_roundw
    case rel=>exact ⟨j+1,by go_num,by omega,HN2,trivial⟩
    case measure=>simp [intOf];omega
  ·have i1:¬ (j:Int)<(l.length:Int):=by omega
   have HM:Hid (s ∉ l):=fun hm=>by
    obtain ⟨i,hi⟩:=List.getElem?_of_mem hm
    have:=(List.getElem?_eq_some_iff.1 hi).1
    exact HN.out i (by omega) hi
   go_wp2_with fail
   go_ret
   exact ⟨by rw [decide_eq_false HM.out];rfl,rfl⟩
def okB (k:Int) (n m:Nat) (outer call:Bool):Bool :=
 if k=2∨k=15 then n == 0 else if k=3 then n == 2 || n == 3 else if k=4∨k=7∨k=9 then decide (1≤n) else if k=5 then n == 1 && outer else
 if k=6∨11≤k∧k≤14 then n == 1 else if k=8 then decide (m<n) else if k=10 then decide (1≤n) && call else false
def shapeM (f:Frm) (outer:Bool):Bool :=
 if f.kind=1 then canB f.dat && (f.text == [] && (f.names.length == 0 && f.kids.len == 0))
 else okB f.kind f.kids.len f.names.length outer (callFitB f) && (emptyB f.dat && ((hasTextB f.kind || f.text == []) && (hasNamesB f.kind || f.names.length == 0)))
theorem same_nil (s:Fo):s.same .nil=(s.len == 0):=by
 cases s with
 | nil=>rfl
 | cons k n t s d r=>simp [Fo.same,Fo.len]
theorem empty_eq (x:Dt):sameB x.k x.n x.t x.s x.d 0 0 [] .nil false=emptyB x:=by
 unfold sameB emptyB
 rw [same_nil]
 have e:decide (x.t=[])=(x.t == []):=by cases x.t<;>rfl
 rw [e]
 cases x.k == 0<;>cases x.n == 0<;>cases x.t == []<;>cases x.d<;>cases x.s.len == 0<;>rfl
theorem takes_eq (k:Nat) (n:Int) (a b:Int) (h:((shpOf k).2.2.1,(shpOf k).2.2.2)=(a,b)):takesB k n=(decide (a≤n) && decide (n≤b)):=by
 unfold takesB
 rw [(Prod.mk.inj h).1,(Prod.mk.inj h).2]
theorem shape_eq (f:Frm) (outer:Bool) (hk:f.kids.len≤1000000) (hn:f.names.length≤1000000):shapeM f outer=(shapedB f && (outer || !(f.kind == 5))):=by
 obtain ⟨k,t,ns,ks,d⟩:=f
 by_cases hr:k<1∨15<k
 ·have e1:shapedB ⟨k,t,ns,ks,d⟩=false:=by unfold shapedB;rw [if_pos hr]
  have e2:shapeM ⟨k,t,ns,ks,d⟩ outer=false:=by
   unfold shapeM okB
   simp only []
   rw [if_neg (by omega),if_neg (by omega),if_neg (by omega),if_neg (by omega),if_neg (by omega),if_neg (by omega),if_neg (by omega),if_neg (by omega)]
   rfl
  rw [e1,e2];rfl
 simp only [] at hk hn
 have e0:shapedB ⟨k,t,ns,ks,d⟩=((((takesB k.toNat (ks.len-valsN ⟨k,t,ns,ks,d⟩) && (t == [] || hasTextB k)) && (ns.length == 0 || hasNamesB k)) && datFitB ⟨k,t,ns,ks,d⟩) && callFitB ⟨k,t,ns,ks,d⟩):=by
  unfold shapedB;rw [if_neg hr]
 rw [e0]
 obtain ⟨c,hc⟩:∃c,callFitB ⟨k,t,ns,ks,d⟩=c:=⟨_,rfl⟩
 have hc' : k≠10→c=true:=fun h=>by rw [←hc];unfold callFitB;rw [if_neg (by simp only [];omega)]
 have hd:datFitB ⟨k,t,ns,ks,d⟩=if k=1 then canB d else emptyB d:=by unfold datFitB;simp only [empty_eq]
 have hv:(valsN ⟨k,t,ns,ks,d⟩:Nat)=if k=8 then ns.length else 0:=rfl
 have h:k=1∨k=2∨k=3∨k=4∨k=5∨k=6∨k=7∨k=8∨k=9∨k=10∨k=11∨k=12∨k=13∨k=14∨k=15:=by omega
 unfold shapeM
 simp only []
 rw [hc,hd,hv]
 obtain ⟨p,hp⟩:∃p,canB d=p:=⟨_,rfl⟩
 obtain ⟨q,hq⟩:∃q,emptyB d=q:=⟨_,rfl⟩
 obtain ⟨u,hu⟩:∃u,(t == ([]:List UInt8))=u:=⟨_,rfl⟩
 rw [hp,hq,hu]
 clear e0 hc hd hv hp hq hu hr
 obtain ⟨m,hm⟩:∃m,ns.length=m:=⟨_,rfl⟩
 rw [hm] at hn ⊢
 clear hm
 rcases h with rfl|rfl|rfl|rfl|rfl|rfl|rfl|rfl|rfl|rfl|rfl|rfl|rfl|rfl|rfl
 ·rw [hc' (by decide),takes_eq _ _ 0 0 rfl,Bool.eq_iff_iff]
  cases u<;>cases p<;>cases outer<;>simp [hasTextB,hasNamesB]<;>omega
 ·rw [hc' (by decide),takes_eq _ _ 0 0 rfl,Bool.eq_iff_iff]
  cases u<;>cases q<;>cases outer<;>simp [okB,hasTextB,hasNamesB]<;>omega
 ·rw [hc' (by decide),takes_eq _ _ 2 3 rfl,Bool.eq_iff_iff]
  cases u<;>cases q<;>cases outer<;>simp [okB,hasTextB,hasNamesB]<;>omega
 ·rw [hc' (by decide),takes_eq _ _ 1 9223372036854775807 rfl,Bool.eq_iff_iff]
  cases u<;>cases q<;>cases outer<;>simp [okB,hasTextB,hasNamesB]<;>omega
 ·rw [hc' (by decide),takes_eq _ _ 1 1 rfl,Bool.eq_iff_iff]
  cases u<;>cases q<;>cases outer<;>simp [okB,hasTextB,hasNamesB]<;>omega
 ·rw [hc' (by decide),takes_eq _ _ 1 1 rfl,Bool.eq_iff_iff]
  cases u<;>cases q<;>cases outer<;>simp [okB,hasTextB,hasNamesB]<;>omega
 ·rw [hc' (by decide),takes_eq _ _ 1 9223372036854775807 rfl,Bool.eq_iff_iff]
  cases u<;>cases q<;>cases outer<;>simp [okB,hasTextB,hasNamesB]<;>omega
 ·rw [hc' (by decide),takes_eq _ _ 1 9223372036854775807 rfl,Bool.eq_iff_iff]
  cases u<;>cases q<;>cases outer<;>simp [okB,hasTextB,hasNamesB]<;>omega
 ·rw [hc' (by decide),takes_eq _ _ 1 9223372036854775807 rfl,Bool.eq_iff_iff]
  cases u<;>cases q<;>cases outer<;>simp [okB,hasTextB,hasNamesB]<;>omega
 ·rw [takes_eq _ _ 1 9223372036854775807 rfl,Bool.eq_iff_iff]
  cases u<;>cases q<;>cases outer<;>cases c<;>simp [okB,hasTextB,hasNamesB]<;>omega
 ·rw [hc' (by decide),takes_eq _ _ 1 1 rfl,Bool.eq_iff_iff]
  cases u<;>cases q<;>cases outer<;>simp [okB,hasTextB,hasNamesB]<;>omega
 ·rw [hc' (by decide),takes_eq _ _ 1 1 rfl,Bool.eq_iff_iff]
  cases u<;>cases q<;>cases outer<;>simp [okB,hasTextB,hasNamesB]<;>omega
 ·rw [hc' (by decide),takes_eq _ _ 1 1 rfl,Bool.eq_iff_iff]
  cases u<;>cases q<;>cases outer<;>simp [okB,hasTextB,hasNamesB]<;>omega
 ·rw [hc' (by decide),takes_eq _ _ 1 1 rfl,Bool.eq_iff_iff]
  cases u<;>cases q<;>cases outer<;>simp [okB,hasTextB,hasNamesB]<;>omega
 ·rw [hc' (by decide),takes_eq _ _ 0 0 rfl,Bool.eq_iff_iff]
  cases u<;>cases q<;>cases outer<;>simp [okB,hasTextB,hasNamesB]<;>omega
def txtB (f:Frm):Bool:=if f.kind=2 then nameB f.text else if f.kind=5∨f.kind=6 then varB f.text else true
def docE (f:Frm) (outer:Bool):Int:=if !shapeM f outer then 70 else if !txtB f then 71 else if !f.names.all varB then 71 else if twiceB [] f.names then 72 else 0
theorem shaped_names {f:Frm} (h:shapedB f=true) (hk:hasNamesB f.kind=false):f.names=[]:=by
 unfold shapedB at h
 split at h
 ·cases h
 ·simp only [Bool.and_eq_true,hk,Bool.or_false] at h
  exact List.length_eq_zero_iff.1 (by simpa using h.1.1.2)
theorem doc_eq (f:Frm) (outer:Bool) (hk:f.kids.len≤1000000) (hn:f.names.length≤1000000):docE f outer=termE f (!outer):=by
 have hs:=shape_eq f outer hk hn
 unfold docE termE
 rw [hs]
 by_cases h1:(shapedB f && (outer || !(f.kind == 5)))=true
 ·have h2:(!shapedB f || (!outer && f.kind == 5))=false:=by
   revert h1
   cases shapedB f<;>cases outer<;>cases f.kind == 5<;>simp
  have hsh:shapedB f=true:=by
   simp only [Bool.and_eq_true] at h1;exact h1.1
  rw [h1,h2]
  simp only [Bool.not_true,Bool.false_eq_true,if_false]
  have e:(txtB f=true∧f.names.all varB=true)↔namedB f=true:=by
   unfold txtB namedB
   by_cases k2:f.kind=2
   ·rw [if_pos k2,if_pos k2,shaped_names hsh (by rw [k2];decide)];simp
   ·rw [if_neg k2,if_neg k2]
    by_cases k5:f.kind=5∨f.kind=6
    ·rw [if_pos k5,if_pos k5,shaped_names hsh (by rcases k5 with h|h<;>rw [h]<;>decide)];simp
    ·rw [if_neg k5,if_neg k5];simp
  cases hn:namedB f with
  | true =>
   obtain ⟨a,b⟩:=e.2 hn
   rw [a,b];simp
  | false =>
   have:¬ (txtB f=true∧f.names.all varB=true):=fun h=>by rw [e.1 h] at hn;cases hn
   cases ht:txtB f with
   | false=>simp
   | true =>
    cases ha:f.names.all varB with
    | false=>simp
    | true=>exact absurd ⟨ht,ha⟩ this
 ·have h1' : (shapedB f && (outer || !(f.kind == 5)))=false:=by simpa using h1
  have h2:(!shapedB f || (!outer && f.kind == 5))=true:=by
   revert h1'
   cases shapedB f<;>cases outer<;>cases f.kind == 5<;>simp
  rw [h1', h2];simp
theorem terms_one (f:Frm) (inn:Bool):termsE inn (f.fm .nil)=if termE f inn≠0 then termE f inn else termsE true f.kids:=by
 show termsE inn (.cons _ _ _ _ _ _ _ _ _ .nil)=_
 simp only [termsE]
 split
 ·rfl
 ·split
  ·rfl
  ·rename_i h;simp only [ne_eq,Decidable.not_not] at h;exact h.symm
theorem name_eq (s:List UInt8):nameB s=(canB ⟨2,0,s, .nil,false⟩ && !kwB s):=by
 show ((kwOf s).isNone && canB ⟨2,0,s, .nil,false⟩)=_
 rw [←kw_is s]
 cases canB ⟨2,0,s, .nil,false⟩<;>cases kwOf s<;>rfl
theorem wrapR {x:Int} (h0:0≤x) (h1:x≤9000000000000000000):IntKind.i64.wrap x=x:=by
 simp [IntKind.wrap,IntKind.bits,IntKind.signed]
 omega
theorem rshape_any (f:Frm) (nr kr dr:Option Addr) (nc kc dc:Nat) (outer:Bool) (w:World) (hF:FOk f) (hO:f.kids.oks) (hs:f.dat.s.size≤999999) (hR:RFo w f nr kr dr) :
  Calls Tryz.prog 114 #[frmV f (.slice nr f.names.length nc) (.slice kr f.kids.len kc) (.slice dr f.dat.s.len dc), .bool outer] w fun e w' => e = .returned (.bool (shapeM f outer))∧Below w.heap.size w w' := by
 obtain ⟨W1,hW1⟩:∃W1,w.alloc (Z9 f (.slice nr f.names.length nc) (.slice kr f.kids.len kc) (.slice dr f.dat.s.len dc))=W1:=⟨_,rfl⟩
 have a1:=(Below.refl _ w).alloc (Nat.le_refl w.heap.size) (Z9 f (.slice nr f.names.length nc) (.slice kr f.kids.len kc) (.slice dr f.dat.s.len dc))
 have q0:=World.alloc_heap_new w (Z9 f (.slice nr f.names.length nc) (.slice kr f.kids.len kc) (.slice dr f.dat.s.len dc))
 rw [hW1] at a1 q0
 have HB1:Hid (Below w.heap.size w W1):=a1
 have HQ1:Hid _:=q0
 have HR:Hid (RFo W1 f nr kr dr):=hR.below a1
 have HF:Hid (FOk f):=hF
 have HO:Hid f.kids.oks:=hO
 have HSZ:Hid (f.dat.s.size≤999999):=hs
 obtain ⟨⟨z0,z1,z2,z3,z4,z5,z6,z7,z8⟩,zf⟩:=cells9 q0
 have lq:w.heap.size<W1.heap.size:=cell_lt z0
 clear hR hF hO hs a1 q0
 go_enter Tryz.func114,Tryz.ntmps114
 go_upto_region 1 with fail
 clear hW1
 obtain ⟨bq,hbq⟩:∃b,w.heap.size=b:=⟨_,rfl⟩
 rw [hbq] at HQ1 z0 z1 z2 z3 z4 z5 z6 z7 z8 zf lq ⊢
 by_cases h1:f.kind=1
 ·rw [h1] at z0
  have HM:Hid (shapeM f outer=(canB f.dat && (f.text == [] && (f.names.length == 0 && f.kids.len == 0)))):=by
   show _=_;unfold shapeM;rw [if_pos h1]
  have e4:=zf 4
  have HC:Hid (Calls Tryz.prog 77 #[datV f.dat (.slice dr f.dat.s.len dc)] W1 fun e w' => e = .returned (.bool (canB f.dat))∧Below W1.heap.size W1 w'):=right_any f.dat dr dc W1 HSZ.out HF.out.d.t HF.out.d.tx HR.out.d
  go_upto_region 6 with fail
  go_wp2_with fail
  refine HC.out.mono ?_
  rintro e w2 ⟨rfl,hb2⟩
  have HB2:Hid (Below w.heap.size w w2):=HB1.out.trans (hb2.mono HB1.out.size)
  have HQ2:Hid _:=(hb2.block _ (Array.getElem?_eq_some_iff.1 HQ1.out).1).trans HQ1.out
  clear hb2 z0 z1 z2 z3 z4 z5 z6 z7 z8 zf lq e4 h1
  obtain ⟨⟨z0,z1,z2,z3,z4,z5,z6,z7,z8⟩,zf⟩:=cells9 HQ2.out
  have lq:bq<w2.heap.size:=cell_lt z0
  obtain ⟨p,hp⟩:∃p,canB f.dat=p:=⟨_,rfl⟩
  rw [hp] at HM ⊢
  clear hp HC
  cases p with
  | false =>
   go_wp2_with fail
   go_ret
   exact ⟨by rw [HM.out];rfl,HB2.out⟩
  | true =>
  cases ht:f.text == [] with
  | false =>
   have HT:Hid _:=ht
   go_wp2_with fail
   go_ret
   exact ⟨by rw [HM.out,HT.out];rfl,HB2.out⟩
  | true =>
  have HT:Hid _:=ht
  cases hn:f.names.length == 0 with
  | false =>
   have HN:Hid _:=hn
   have hn2:((f.names.length:Int) == 0)=false:=by
    have:=beq_eq_false_iff_ne.1 hn
    rw [beq_eq_false_iff_ne];omega
   go_wp2_with fail
   go_ret
   exact ⟨by rw [HM.out,HT.out,HN.out];rfl,HB2.out⟩
  | true =>
   have HN:Hid _:=hn
   have hn2:((f.names.length:Int) == 0)=true:=by
    have:f.names.length=0:=by simpa using hn
    simp [this]
   have HL:Hid ((f.kids.len == 0)=((f.kids.len:Int) == 0)):=by
    show _=_
    rw [Bool.eq_iff_iff];simp
   go_wp2_with fail
   go_ret
   exact ⟨by rw [HM.out,HT.out,HN.out,HL.out];simp,HB2.out⟩
 ·have HK1:Hid (f.kind≠1):=h1
  obtain ⟨n,hn⟩:∃n,f.kids.len=n:=⟨_,rfl⟩
  obtain ⟨m,hm⟩:∃m,f.names.length=m:=⟨_,rfl⟩
  have n0:((n:Int) == 0)=(n == 0):=by rw [Bool.eq_iff_iff];simp
  have n1:((n:Int) == 1)=(n == 1):=by rw [Bool.eq_iff_iff];simp;omega
  have n2:((n:Int) == 2)=(n == 2):=by rw [Bool.eq_iff_iff];simp;omega
  have n3:((n:Int) == 3)=(n == 3):=by rw [Bool.eq_iff_iff];simp;omega
  have g1:decide ((1:Int)≤(n:Int))=decide (1≤n):=by rw [Bool.eq_iff_iff];simp;omega
  have gm:decide ((m:Int)<(n:Int))=decide (m<n):=by rw [Bool.eq_iff_iff];simp
  have HNs:Hid (((n:Int) == 0)=(n == 0)∧((n:Int) == 1)=(n == 1)∧((n:Int) == 2)=(n == 2)∧((n:Int) == 3)=(n == 3)∧decide ((1:Int)≤(n:Int))=decide (1≤n)∧decide ((m:Int)<(n:Int))=decide (m<n)):=⟨n0,n1,n2,n3,g1,gm⟩
  clear n0 n1 n2 n3 g1 gm
  have HNN:Hid (f.kids.len=n∧f.names.length=m):=⟨hn,hm⟩
  rw [hn] at z3
  rw [hm] at z2
  clear hn hm
  obtain ⟨k,hk⟩:∃k,f.kind=k:=⟨_,rfl⟩
  have HKK:Hid (f.kind=k):=hk
  rw [hk] at z0 h1
  clear hk
  go_upto_block 0 with fail
  go_cut [6,7] (fun v6 v7 wx=>v6 = .bool (hasTextB k)∧v7 = .bool (okB k n m outer (callFitB f))∧Hid (Below w.heap.size w wx)∧Hid (wx.heap[bq]?=some (Z9 f (.slice nr f.names.length nc) (.slice kr f.kids.len kc) (.slice dr f.dat.s.len dc))))
  case first =>
   by_cases k2:k=2
   ·subst k2
    go_wp2_with fail
    go_meet
    exact ⟨rfl,by rw [HNs.out.1];rfl,HB1,HQ1⟩
   by_cases k3:k=3
   ·subst k3
    have HE:Hid (okB 3 n m outer (callFitB f)=((n:Int) == 2 || (n:Int) == 3)):=by show _=_;rw [HNs.out.2.2.1,HNs.out.2.2.2.1];rfl
    cases h2:((n:Int) == 2) with
    | true =>
     have H2:Hid _:=h2
     go_wp2_with fail
     go_meet
     exact ⟨rfl,by rw [HE.out,H2.out];rfl,HB1,HQ1⟩
    | false =>
     have H2:Hid _:=h2
     go_wp2_with fail
     go_meet
     exact ⟨rfl,by rw [HE.out,H2.out];rfl,HB1,HQ1⟩
   by_cases k4:k=4
   ·subst k4
    go_wp2_with fail
    go_meet
    exact ⟨rfl,by rw [show okB 4 n m outer (callFitB f)=decide (1≤n) from rfl, ←HNs.out.2.2.2.2.1],HB1,HQ1⟩
   by_cases k5:k=5
   ·subst k5
    have HE:Hid (okB 5 n m outer (callFitB f)=((n:Int) == 1 && outer)):=by show _=_;rw [HNs.out.2.1];rfl
    cases h2:((n:Int) == 1) with
    | true =>
     have H2:Hid _:=h2
     go_wp2_with fail
     go_meet
     exact ⟨rfl,by rw [HE.out,H2.out];rfl,HB1,HQ1⟩
    | false =>
     have H2:Hid _:=h2
     go_wp2_with fail
     go_meet
     exact ⟨rfl,by rw [HE.out,H2.out];rfl,HB1,HQ1⟩
   by_cases k6:k=6
   ·subst k6
    go_wp2_with fail
    go_meet
    exact ⟨rfl,by rw [show okB 6 n m outer (callFitB f)=(n == 1) from rfl, ←HNs.out.2.1],HB1,HQ1⟩
   by_cases k11:k=11
   ·subst k11
    go_wp2_with fail
    go_meet
    exact ⟨rfl,by rw [show okB 11 n m outer (callFitB f)=(n == 1) from rfl, ←HNs.out.2.1],HB1,HQ1⟩
   by_cases k12:k=12
   ·subst k12
    go_wp2_with fail
    go_meet
    exact ⟨rfl,by rw [show okB 12 n m outer (callFitB f)=(n == 1) from rfl, ←HNs.out.2.1],HB1,HQ1⟩
   by_cases k13:k=13
   ·subst k13
    go_wp2_with fail
    go_meet
    exact ⟨rfl,by rw [show okB 13 n m outer (callFitB f)=(n == 1) from rfl, ←HNs.out.2.1],HB1,HQ1⟩
   by_cases k14:k=14
   ·subst k14
    go_wp2_with fail
    go_meet
    exact ⟨rfl,by rw [show okB 14 n m outer (callFitB f)=(n == 1) from rfl, ←HNs.out.2.1],HB1,HQ1⟩
   by_cases k7:k=7
   ·subst k7
    go_wp2_with fail
    go_meet
    exact ⟨rfl,by rw [show okB 7 n m outer (callFitB f)=decide (1≤n) from rfl, ←HNs.out.2.2.2.2.1],HB1,HQ1⟩
   by_cases k9:k=9
   ·subst k9
    go_wp2_with fail
    go_meet
    exact ⟨rfl,by rw [show okB 9 n m outer (callFitB f)=decide (1≤n) from rfl, ←HNs.out.2.2.2.2.1],HB1,HQ1⟩
   by_cases k15:k=15
   ·subst k15
    go_wp2_with fail
    go_meet
    exact ⟨rfl,by rw [show okB 15 n m outer (callFitB f)=(n == 0) from rfl, ←HNs.out.1],HB1,HQ1⟩
   by_cases k8:k=8
   ·subst k8
    go_wp2_with fail
    go_meet
    exact ⟨rfl,by rw [show okB 8 n m outer (callFitB f)=decide (m<n) from rfl, ←HNs.out.2.2.2.2.2],HB1,HQ1⟩
   by_cases k10:k=10
   ·subst k10
    have HE:Hid (okB 10 n m outer (callFitB f)=(decide ((1:Int)≤(n:Int)) && callFitB f)):=by show _=_;rw [HNs.out.2.2.2.2.1];rfl
    by_cases hn1:1≤n
    case neg =>
     have hd:decide ((1:Int)≤(n:Int))=false:=decide_eq_false (by omega)
     have HD:Hid _:=hd
     clear hn1
     go_wp2_with fail
     go_meet
     exact ⟨rfl,by rw [HE.out,HD.out];rfl,HB1,HQ1⟩
    have hd:decide ((1:Int)≤(n:Int))=true:=decide_eq_true (by omega)
    have HD:Hid _:=hd
    have hni:(0:Int)<(n:Int):=by omega
    obtain ⟨kb,ko,hkz,hkd⟩:=HR.out.k
    have hra:=hkz.resolve_left (by have:=HNN.out.1;omega)
    subst hra
    obtain ⟨K,hK⟩:∃K,f.kids=K:=⟨_,rfl⟩
    have HN1:Hid (K.len=n):=by show K.len=n;rw [←hK];exact HNN.out.1
    have HOK:Hid K.oks:=by show K.oks;rw [←hK];exact HO.out
    have HCF:Hid (callFitB f=if K.hd.kind=2 then argsB K.hd.text (K.len-1) else true):=by
     show _=_
     unfold callFitB
     rw [hK,HKK.out]
     simp
    rw [hK] at hkd
    clear hK hkz
    cases K with
    | nil=>exact absurd HN1.out (by show ¬ (0:Nat)=n;omega)
    | cons k' t' ns' ks' dk' dn' dt' ds' dd' r' =>
     have y0:=hkd.1.1
     have y1:=hkd.1.2.1
     have ly:=cell_lt y0
     have HTL:Hid (t'.length≤281474976710656):=HOK.out.1.t
     clear hkd
     by_cases hk' : k' = 2
     case neg =>
      have hkb:(k' == 2)=false:=by simpa using hk'
      have HC1:Hid (callFitB f=true):=by show _=_;rw [HCF.out];exact if_neg hk'
      clear hk'
      go_wp2_with fail
      go_meet
      exact ⟨rfl,by rw [HE.out,HD.out,HC1.out];rfl,HB1,HQ1⟩
     subst hk'
     have HC1:Hid (callFitB f=argsB t' ((r'.len+1:Nat)-1)):=by show _=_;rw [HCF.out];exact if_pos rfl
     have HNR:Hid (r'.len+1=n):=HN1.out
     go_wp2_with fail
     refine (rprim_any t' W1 (by have:=HTL.out;unfold maxLen;omega)).mono ?_
     rintro e w2 ⟨rfl,hb2⟩
     have HB2:Hid (Below w.heap.size w w2):=HB1.out.trans (hb2.mono HB1.out.size)
     have HQ2:Hid _:=(hb2.block _ (Array.getElem?_eq_some_iff.1 HQ1.out).1).trans HQ1.out
     clear hb2
     cases hp:primOf t' with
     | none =>
      have HC2:Hid (callFitB f=true):=by show _=_;rw [HC1.out];unfold argsB;rw [hp]
      clear hp
      unfold primV
      go_wp2_with fail
      go_meet
      exact ⟨rfl,by rw [HE.out,HD.out,HC2.out];rfl,HB2,HQ2⟩
     | some p =>
      have HC2:Hid (callFitB f=(argsOf p == (n:Int)-1)):=by show _=_;rw [HC1.out];unfold argsB;rw [hp];simp only [HNR.out]
      have hw:IntKind.i64.wrap ((n:Int)-1)=(n:Int)-1:=wrapR (by omega) (by have:=HNN.out.1;have:=HF.out.kl;omega)
      clear hp
      unfold primV
      go_wp2_with fail
      go_meet
      exact ⟨rfl,by rw [HE.out,HD.out,HC2.out];simp,HB2,HQ2⟩
   have hb1:(k == 1)=false:=by simpa using h1
   have hb2:(k == 2)=false:=by simpa using k2
   have hb3:(k == 3)=false:=by simpa using k3
   have hb4:(k == 4)=false:=by simpa using k4
   have hb5:(k == 5)=false:=by simpa using k5
   have hb6:(k == 6)=false:=by simpa using k6
   have hb7:(k == 7)=false:=by simpa using k7
   have hb8:(k == 8)=false:=by simpa using k8
   have hb9:(k == 9)=false:=by simpa using k9
   have hb10:(k == 10)=false:=by simpa using k10
   have hb11:(k == 11)=false:=by simpa using k11
   have hb12:(k == 12)=false:=by simpa using k12
   have hb13:(k == 13)=false:=by simpa using k13
   have hb14:(k == 14)=false:=by simpa using k14
   have hb15:(k == 15)=false:=by simpa using k15
   have HT:Hid (hasTextB k=false):=by show _=_;unfold hasTextB;rw [hb2,hb5,hb6];rfl
   have HO0:Hid (okB k n m outer (callFitB f)=false):=by
    show _=_
    unfold okB
    rw [if_neg (by omega),if_neg (by omega),if_neg (by omega),if_neg (by omega),if_neg (by omega),if_neg (by omega),if_neg (by omega)]
   clear h1 k2 k3 k4 k5 k6 k7 k8 k9 k10 k11 k12 k13 k14 k15
   go_wp2_with fail
   go_meet
   exact ⟨by rw [HT.out],by rw [HO0.out],HB1,HQ1⟩
  case rest =>
   obtain ⟨rfl,rfl,HBc,HQc⟩:=hcut
   clear z0 z1 z2 z3 z4 z5 z6 z7 z8 zf lq h1
   obtain ⟨⟨z0,z1,z2,z3,z4,z5,z6,z7,z8⟩,zf⟩:=cells9 HQc.out
   have lq:bq<wc.heap.size:=cell_lt z0
   have e4:=zf 4
   have HM:Hid (shapeM f outer=(okB k n m outer (callFitB f) && (emptyB f.dat && ((hasTextB k || f.text == []) && ((k == 4 || k == 8) || m == 0))))):=by
    show _=_
    unfold shapeM
    rw [if_neg HK1.out,HKK.out,HNN.out.1,HNN.out.2]
    rfl
   go_wp2_with fail
   refine (rempty_any f.dat dr dc wc).mono ?_
   rintro e w9 ⟨rfl,hb9⟩
   have HB9:Hid (Below w.heap.size w w9):=HBc.out.trans (hb9.mono HBc.out.size)
   have HQ9:Hid _:=(hb9.block _ (Array.getElem?_eq_some_iff.1 HQc.out).1).trans HQc.out
   clear hb9 z0 z1 z2 z3 z4 z5 z6 z7 z8 zf lq e4
   obtain ⟨⟨z0,z1,z2,z3,z4,z5,z6,z7,z8⟩,zf⟩:=cells9 HQ9.out
   have lq:bq<w9.heap.size:=cell_lt z0
   rw [HKK.out] at z0
   rw [HNN.out.2] at z2
   have HM0:Hid (((m:Int) == 0)=(m == 0)):=by show _=_;rw [Bool.eq_iff_iff];simp
   obtain ⟨p,hp⟩:∃p,okB k n m outer (callFitB f)=p:=⟨_,rfl⟩
   obtain ⟨q,hq⟩:∃q,emptyB f.dat=q:=⟨_,rfl⟩
   obtain ⟨u,hu⟩:∃u,hasTextB k=u:=⟨_,rfl⟩
   rw [hp,hq,hu] at HM
   rw [hp,hq,hu]
   clear hp hq hu
   cases ha:k == 4 with
   | true =>
    have HA:Hid _:=ha
    have ha' : (k != 4)=false:=by simp [bne,ha]
    cases p with
    | false =>
     go_wp2_with fail
     go_ret
     exact ⟨by rw [HM.out,HA.out];simp,HB9.out⟩
    | true =>
    cases q with
    | false =>
     go_wp2_with fail
     go_ret
     exact ⟨by rw [HM.out,HA.out];simp,HB9.out⟩
    | true =>
    cases u with
    | true =>
     go_wp2_with fail
     go_ret
     exact ⟨by rw [HM.out,HA.out];simp,HB9.out⟩
    | false =>
    cases ht:f.text == [] with
    | false =>
     have HT:Hid _:=ht
     go_wp2_with fail
     go_ret
     exact ⟨by rw [HM.out,HA.out,HT.out];simp,HB9.out⟩
    | true =>
     have HT:Hid _:=ht
     go_wp2_with fail
     go_ret
     exact ⟨by rw [HM.out,HA.out,HT.out];simp,HB9.out⟩
   | false =>
   have HA:Hid _:=ha
   have ha' : (k != 4)=true:=by simp [bne,ha]
   cases h8:k == 8 with
   | true =>
    have HA8:Hid _:=h8
    have h8' : (k != 8)=false:=by simp [bne,h8]
    cases p with
    | false =>
     go_wp2_with fail
     go_ret
     exact ⟨by rw [HM.out,HA.out,HA8.out];simp,HB9.out⟩
    | true =>
    cases q with
    | false =>
     go_wp2_with fail
     go_ret
     exact ⟨by rw [HM.out,HA.out,HA8.out];simp,HB9.out⟩
    | true =>
    cases u with
    | true =>
     go_wp2_with fail
     go_ret
     exact ⟨by rw [HM.out,HA.out,HA8.out];simp,HB9.out⟩
    | false =>
    cases ht:f.text == [] with
    | false =>
     have HT:Hid _:=ht
     go_wp2_with fail
     go_ret
     exact ⟨by rw [HM.out,HA.out,HA8.out,HT.out];simp,HB9.out⟩
    | true =>
     have HT:Hid _:=ht
     go_wp2_with fail
     go_ret
     exact ⟨by rw [HM.out,HA.out,HA8.out,HT.out];simp,HB9.out⟩
   | false =>
    have HA8:Hid _:=h8
    have h8' : (k != 8)=true:=by simp [bne,h8]
    cases p with
    | false =>
     go_wp2_with fail
     go_ret
     exact ⟨by rw [HM.out,HA.out,HA8.out];simp,HB9.out⟩
    | true =>
    cases q with
    | false =>
     go_wp2_with fail
     go_ret
     exact ⟨by rw [HM.out,HA.out,HA8.out];simp,HB9.out⟩
    | true =>
    cases u with
    | true =>
     cases hm:((m:Int) == 0) with
     | false =>
      have HMM:Hid _:=hm
      go_wp2_with fail
      go_ret
      exact ⟨by rw [HM.out,HA.out,HA8.out, ←HM0.out,HMM.out];simp,HB9.out⟩
     | true =>
      have HMM:Hid _:=hm
      go_wp2_with fail
      go_ret
      exact ⟨by rw [HM.out,HA.out,HA8.out, ←HM0.out,HMM.out];simp,HB9.out⟩
    | false =>
    cases ht:f.text == [] with
    | false =>
     have HT:Hid _:=ht
     go_wp2_with fail
     go_ret
     exact ⟨by rw [HM.out,HA.out,HA8.out,HT.out];simp,HB9.out⟩
    | true =>
     have HT:Hid _:=ht
     cases hm:((m:Int) == 0) with
     | false =>
      have HMM:Hid _:=hm
      go_wp2_with fail
      go_ret
      exact ⟨by rw [HM.out,HA.out,HA8.out,HT.out, ←HM0.out,HMM.out];simp,HB9.out⟩
     | true =>
      have HMM:Hid _:=hm
      go_wp2_with fail
      go_ret
      exact ⟨by rw [HM.out,HA.out,HA8.out,HT.out, ←HM0.out,HMM.out];simp,HB9.out⟩
def Fm.dsz:Fm→Prop
 | .nil=>True
 | .cons _ _ _ ks _ _ _ ds _ r=>ds.size≤999999∧ks.dsz∧r.dsz
def RTermC (f:Frm):Prop:=∀(outer:Bool) (nr kr dr:Option Addr) (nc kc dc:Nat) (w:World),FOk f→f.kids.oks→(f.fm .nil).dsz→RFo w f nr kr dr→f.names.length≤nc→NcS w kr f.kids →
 Calls Tryz.prog 75 #[frmV f (.slice nr f.names.length nc) (.slice kr f.kids.len kc) (.slice dr f.dat.s.len dc), .bool outer] w fun e w' => e = .returned (.int .i64 (termsE (!outer) (f.fm .nil)))∧Below w.heap.size w w'
theorem rterm_rec (f:Frm) (hall:EachF RTermC f.kids):RTermC f:=by
 intro outer nr kr dr nc kc dc w hF hO hD hR hnc hnk
 obtain ⟨W1,hW1⟩:∃W1,w.alloc (Z9 f (.slice nr f.names.length nc) (.slice kr f.kids.len kc) (.slice dr f.dat.s.len dc))=W1:=⟨_,rfl⟩
 have a1:=(Below.refl _ w).alloc (Nat.le_refl w.heap.size) (Z9 f (.slice nr f.names.length nc) (.slice kr f.kids.len kc) (.slice dr f.dat.s.len dc))
 have q0:=World.alloc_heap_new w (Z9 f (.slice nr f.names.length nc) (.slice kr f.kids.len kc) (.slice dr f.dat.s.len dc))
 rw [hW1] at a1 q0
 have HB1:Hid (Below w.heap.size w W1):=a1
 have HQ1:Hid _:=q0
 have HF:Hid (FOk f):=hF
 have HO:Hid f.kids.oks:=hO
 have HRW:Hid (∀W:World,Below w.heap.size w W→RFo W f nr kr dr):=fun W hb=>hR.below hb
 have HA:Hid (EachF RTermC f.kids):=hall
 have HDK:Hid f.kids.dsz:=hD.2.1
 have HS:Hid (Calls Tryz.prog 114 #[frmV f (.slice nr f.names.length nc) (.slice kr f.kids.len kc) (.slice dr f.dat.s.len dc), .bool outer] W1 fun e w' => e = .returned (.bool (shapeM f outer))∧Below W1.heap.size W1 w'):=rshape_any f nr kr dr nc kc dc outer W1 hF hO hD.1 (hR.below a1)
 have HT:Hid (termsE (!outer) (f.fm .nil)=if docE f outer≠0 then docE f outer else termsE true f.kids):=by
  show _=_;rw [terms_one,doc_eq f outer hF.kl hF.nl]
 have HDE:Hid (docE f outer=if !shapeM f outer then 70 else if !txtB f then 71 else if !f.names.all varB then 71 else if twiceB [] f.names then 72 else 0):=rfl
 have HNC:Hid (f.names.length≤nc):=hnc
 have HNK:Hid (∀W:World,Below w.heap.size w W→NcS W kr f.kids):=fun W hb=>hnk.below hb
 obtain ⟨⟨z0,z1,z2,z3,z4,z5,z6,z7,z8⟩,_⟩:=cells9 q0
 clear hall hF hO hD hR hnc hnk a1 q0
 go_enter Tryz.func75,Tryz.ntmps75
 go_upto_region 1 with fail
 clear hW1
 obtain ⟨bq,hbq⟩:∃b,w.heap.size=b:=⟨_,rfl⟩
 rw [hbq] at HQ1 z0 z1 z2 z3 z4 z5 z6 z7 z8 ⊢
 clear hbq
 go_wp2_with fail
 refine HS.out.mono ?_
 rintro e w2 ⟨rfl,hb2⟩
 have HB2:Hid (Below w.heap.size w w2):=HB1.out.trans (hb2.mono HB1.out.size)
 have HQ2:Hid _:=(hb2.block _ (Array.getElem?_eq_some_iff.1 HQ1.out).1).trans HQ1.out
 clear hb2 z0 z1 z2 z3 z4 z5 z6 z7 z8 HS
 obtain ⟨⟨z0,z1,z2,z3,z4,z5,z6,z7,z8⟩,_⟩:=cells9 HQ2.out
 have lq:=cell_lt z0
 obtain ⟨p,hp⟩:∃p,shapeM f outer=p:=⟨_,rfl⟩
 rw [hp] at HDE ⊢
 clear hp
 cases p with
 | false =>
  have H:Hid (termsE (!outer) (f.fm .nil)=70):=by show _=_;rw [HT.out,HDE.out];rfl
  go_wp2_with fail
  go_ret
  exact ⟨by rw [H.out];rfl,HB2.out⟩
 | true =>
 obtain ⟨k,hk⟩:∃k,f.kind=k:=⟨_,rfl⟩
 have HKK:Hid (f.kind=k):=hk
 rw [hk] at z0
 clear hk
 go_upto_block 0 with fail
 go_cut [5] (fun v5 wx=>v5 = .bool true∧Hid (Below w.heap.size w wx)∧Hid (wx.heap[bq]?=some (Z9 f (.slice nr f.names.length nc) (.slice kr f.kids.len kc) (.slice dr f.dat.s.len dc)))∧Hid (txtB f=true))
 case first =>
  by_cases k2:k=2
  ·subst k2
   have HX:Hid (txtB f=(canB ⟨2,0,f.text, .nil,false⟩ && !kwB f.text)):=by
    show _=_;unfold txtB;rw [if_pos HKK.out,name_eq]
   go_wp2_with fail
   refine (rsym_any f.text w2).mono ?_
   rintro e w3 ⟨rfl,hb3⟩
   go_wp2_with fail
   refine (right_any ⟨2,0,f.text, .nil,false⟩ none 0 w3 (by show 0≤999999;omega) HF.out.t trivial (rs_nil _ _)).mono ?_
   rintro e w4 ⟨rfl,hb4⟩
   have HB4:Hid (Below w2.heap.size w2 w4):=hb3.trans (hb4.mono hb3.size)
   have HB4' : Hid (Below w.heap.size w w4):=HB2.out.trans (HB4.out.mono HB2.out.size)
   have HQ4:Hid _:=(HB4.out.block _ (Array.getElem?_eq_some_iff.1 HQ2.out).1).trans HQ2.out
   clear hb3 hb4 z0 z1 z2 z3 z4 z5 z6 z7 z8 lq
   obtain ⟨⟨z0,z1,z2,z3,z4,z5,z6,z7,z8⟩,_⟩:=cells9 HQ4.out
   have lq:=cell_lt z0
   go_wp2_with fail
   refine (rkey_any f.text w4 (by have:=HF.out.t;unfold maxLen;omega)).mono ?_
   rintro e w5 ⟨rfl,hb5⟩
   have HB5:Hid (Below w.heap.size w w5):=HB4'.out.trans (hb5.mono HB4'.out.size)
   have HQ5:Hid _:=(hb5.block _ (Array.getElem?_eq_some_iff.1 HQ4.out).1).trans HQ4.out
   clear hb5 z0 z1 z2 z3 z4 z5 z6 z7 z8 lq
   obtain ⟨a,ha⟩:∃a,canB ⟨2,0,f.text, .nil,false⟩=a:=⟨_,rfl⟩
   obtain ⟨c,hc⟩:∃c,kwB f.text=c:=⟨_,rfl⟩
   rw [ha,hc] at HX
   rw [ha,hc]
   clear ha hc
   cases a with
   | false =>
    have H:Hid (termsE (!outer) (f.fm .nil)=71):=by show _=_;rw [HT.out,HDE.out,HX.out];rfl
    go_wp2_with fail
    go_ret
    exact ⟨by rw [H.out];rfl,HB5.out⟩
   | true =>
   cases c with
   | true =>
    have H:Hid (termsE (!outer) (f.fm .nil)=71):=by show _=_;rw [HT.out,HDE.out,HX.out];rfl
    go_wp2_with fail
    go_ret
    exact ⟨by rw [H.out];rfl,HB5.out⟩
   | false =>
    go_wp2_with fail
    go_meet
    exact ⟨rfl,HB5,HQ5,HX⟩
  by_cases k56:k=5∨k=6
  ·have HX:Hid (txtB f=varB f.text):=by
    show _=_;unfold txtB;rw [if_neg (by rw [HKK.out];exact k2),if_pos (by rw [HKK.out];exact k56)]
   obtain ⟨a,ha⟩:∃a,varB f.text=a:=⟨_,rfl⟩
   have HVA:Hid (varB f.text=a):=ha
   rw [ha] at HX
   clear ha k2
   have HC:Hid (Calls Tryz.prog 116 #[S f.text] w2 fun e w' => e = .returned (.bool a)∧Below w2.heap.size w2 w'):=by
    have:=rbound_any f.text w2 HF.out.t
    rwa [HVA.out] at this
   rcases k56 with rfl|rfl
   all_goals
    go_wp2_with fail
    refine HC.out.mono ?_
    rintro e w3 ⟨rfl,hb3⟩
    have HB3:Hid (Below w.heap.size w w3):=HB2.out.trans (hb3.mono HB2.out.size)
    have HQ3:Hid _:=(hb3.block _ (Array.getElem?_eq_some_iff.1 HQ2.out).1).trans HQ2.out
    clear hb3 z0 z1 z2 z3 z4 z5 z6 z7 z8 lq
    cases a with
    | false =>
     have H:Hid (termsE (!outer) (f.fm .nil)=71):=by show _=_;rw [HT.out,HDE.out,HX.out];rfl
     go_wp2_with fail
     go_ret
     exact ⟨by rw [H.out];rfl,HB3.out⟩
    | true =>
     go_wp2_with fail
     go_meet
     exact ⟨rfl,HB3,HQ3,HX⟩
  have HX:Hid (txtB f=true):=by
   show _=_;unfold txtB;rw [if_neg (by rw [HKK.out];exact k2),if_neg (by rw [HKK.out];exact k56)]
  have hb2:(k == 2)=false:=by simpa using k2
  have hb5:(k == 5)=false:=by simpa using fun h=>k56 (.inl h)
  have hb6:(k == 6)=false:=by simpa using fun h=>k56 (.inr h)
  clear k2 k56
  go_wp2_with fail
  go_meet
  exact ⟨rfl,HB2,HQ2,HX⟩
 case rest =>
  obtain ⟨rfl,HBc,HQc,HX⟩:=hcut
  rw [HX.out] at HDE
  have HRN:Hid (RX S wc nr f.names):=(HRW.out _ HBc.out).n.rx
  have HRK:Hid (RSF wc kr f.kids):=(HRW.out _ HBc.out).k
  have hnl:f.names.length≤1000000:=HF.out.nl
  have hkl:f.kids.len≤1000000:=HF.out.kl
  clear z0 z1 z2 z3 z4 z5 z6 z7 z8 lq HKK
  go_upto_region 16 with fail
  go_loopw [9] (fun v wr=>∃j:Nat,v = .int .i64 j∧j≤f.names.length∧Hid (Below wc.heap.size wc wr)∧Hid (f.names.all varB=(f.names.drop j).all varB)) (fun v _=>f.names.length-(intOf v).toNat)
  case atStart=>exact ⟨0,rfl,Nat.zero_le _,Below.refl _ _,by show _=_;rw [List.drop_zero]⟩
  case round =>
   obtain ⟨j,rfl,hj,HBj,HAj⟩:=hrel
   have HQj:Hid _:=(HBj.out.block _ (Array.getElem?_eq_some_iff.1 HQc.out).1).trans HQc.out
   have HBwj:Hid (Below w.heap.size w wr):=HBc.out.trans (HBj.out.mono HBc.out.size)
   obtain ⟨⟨z0,z1,z2,z3,z4,z5,z6,z7,z8⟩,_⟩:=cells9 HQj.out
   have lq:=cell_lt z0
   by_cases hlt:j<f.names.length
   ·have i1:(j:Int)<(f.names.length:Int):=by omega
    obtain ⟨b,o,h1,h2⟩:=RX.at HRN.out
    have hra:=h1 (by omega)
    subst hra
    obtain ⟨x,hx⟩:∃x,f.names[j]?=some x:=⟨_,List.getElem?_eq_getElem hlt⟩
    obtain ⟨hb,hc⟩:=h2 j x hx
    have c0:wr.cell? ⟨b,o+j,none⟩=some (S x):=(HBj.out.cell (p:=⟨b,o+j,none⟩) hb).trans hc
    have l0:=cell_lt c0
    have hxl:x.length≤281474976710656:=HF.out.ns x (List.mem_of_getElem? hx)
    have HAn:Hid (f.names.all varB=(varB x && (f.names.drop (j+1)).all varB)):=by
     show _=_
     obtain ⟨hl,he⟩:=List.getElem?_eq_some_iff.1 hx
     rw [HAj.out,List.drop_eq_getElem_cons hl,he,List.all_cons]
    have HC:Hid (Calls Tryz.prog 116 #[S x] wr fun e w' => e = .returned (.bool (varB x))∧Below wr.heap.size wr w'):=rbound_any x wr hxl
    obtain ⟨a,ha⟩:∃a,varB x=a:=⟨_,rfl⟩
    rw [ha] at HC HAn
    clear h1 h2 hb hc hx hxl ha HAj
    go_wp2_with fail
    refine HC.out.mono ?_
    rintro e w3 ⟨rfl,hb3⟩
    have HB3:Hid (Below wc.heap.size wc w3):=HBj.out.trans (hb3.mono HBj.out.size)
    have HBw3:Hid (Below w.heap.size w w3):=HBc.out.trans (HB3.out.mono HBc.out.size)
    clear hb3 z0 z1 z2 z3 z4 z5 z6 z7 z8 lq c0 l0 HC
    cases a with
    | false =>
     have H:Hid (termsE (!outer) (f.fm .nil)=71):=by show _=_;rw [HT.out,HDE.out,HAn.out];rfl
     go_wp2_with fail
     go_ret
     exact ⟨by rw [H.out];rfl,HBw3.out⟩
    | true =>
     have HAn2:Hid (f.names.all varB=(f.names.drop (j+1)).all varB):=by show _=_;rw [HAn.out];rfl
     go_wp2_with fail
     go_roundw
     case rel=>exact ⟨j+1,by go_num,by omega,HB3,HAn2⟩
     case measure=>simp [intOf];omega
   ·have i1:¬ (j:Int)<(f.names.length:Int):=by omega
    have HAL:Hid (f.names.all varB=true):=by show _=_;rw [HAj.out,List.drop_eq_nil_of_le (by omega)];rfl
    rw [HAL.out] at HDE
    clear HAj
    go_upto_region 22 with fail
    obtain ⟨wl,rfl⟩:∃W,W=wr:=⟨_,rfl⟩
    have HRN2:Hid (RX S wl nr f.names):=HRN.out.below HBj.out
    have HQl:Hid (wl.heap[bq]?=some (Z9 f (.slice nr f.names.length nc) (.slice kr f.kids.len kc) (.slice dr f.dat.s.len dc))):=HQj.out
    clear z0 z1 z2 z3 z4 z5 z6 z7 z8 lq hj hlt i1 HQj HBj
    go_loopw [11] (fun v wr=>∃i:Nat,v = .int .i64 i∧i≤f.names.length∧Hid (Below wl.heap.size wl wr)∧Hid (twiceB [] f.names=twiceB (f.names.take i) (f.names.drop i))) (fun v _=>f.names.length-(intOf v).toNat)
    case atStart=>exact ⟨0,rfl,Nat.zero_le _,Below.refl _ _,by show _=_;simp⟩
    case round =>
     obtain ⟨i,rfl,hi,HBi,HTi⟩:=hrel
     have HQi:Hid _:=(HBi.out.block _ (Array.getElem?_eq_some_iff.1 HQl.out).1).trans HQl.out
     have HBwi:Hid (Below w.heap.size w wr):=HBwj.out.trans (HBi.out.mono HBwj.out.size)
     obtain ⟨⟨z0,z1,z2,z3,z4,z5,z6,z7,z8⟩,_⟩:=cells9 HQi.out
     have lq:=cell_lt z0
     by_cases hlt:i<f.names.length
     ·have i1:(i:Int)<(f.names.length:Int):=by omega
      have i0:¬ (i:Int)<0:=by omega
      have hic:(i:Int)≤(nc:Int):=by have:=HNC.out;omega
      obtain ⟨b,o,h1,h2⟩:=RX.at HRN2.out
      have hra:=h1 (by omega)
      subst hra
      obtain ⟨x,hx⟩:∃x,f.names[i]?=some x:=⟨_,List.getElem?_eq_getElem hlt⟩
      obtain ⟨hb,hc⟩:=h2 i x hx
      have c0:wr.cell? ⟨b,o+i,none⟩=some (S x):=(HBi.out.cell (p:=⟨b,o+i,none⟩) hb).trans hc
      have l0:=cell_lt c0
      have HTn:Hid (twiceB [] f.names=(decide (x∈f.names.take i) || twiceB (f.names.take (i+1)) (f.names.drop (i+1)))):=by
       show _=_
       obtain ⟨hl,he⟩:=List.getElem?_eq_some_iff.1 hx
       rw [HTi.out,List.drop_eq_getElem_cons hl,he]
       show (decide (x∈f.names.take i) || twiceB (f.names.take i++[x]) _)=_
       rw [List.take_add_one,hx]
       rfl
      have HAM:Hid (∀K:Nat,Calls Tryz.prog 117 #[.slice (some ⟨b,o,none⟩) i nc,S x] (wr.drewN K) fun e w' => e = .returned (.bool (decide (x∈f.names.take i)))∧w' = wr.drewN K):=fun K=>by
       have hRX:RX S (wr.drewN K) (some ⟨b,o,none⟩) (f.names.take i):=by
        obtain ⟨bb,oo,g1,g2⟩:=(HRN2.out.below HBi.out).below (below_drewN (Below.refl _ wr) K)
        refine ⟨bb,oo,?_,fun q y hq=>g2 q y ?_⟩
        ·rcases g1 with g1|g1
         ·exact .inl (by rw [List.length_take,g1];simp)
         ·exact .inr g1
        ·rw [List.getElem?_take] at hq
         split at hq
         ·exact hq
         ·cases hq
       have h:=ramong_any (f.names.take i) x (some ⟨b,o,none⟩) nc (wr.drewN K) (by rw [List.length_take];unfold maxLen;omega) hRX
       rw [List.length_take,Nat.min_eq_left hi] at h
       exact h
      obtain ⟨a,ha⟩:∃a,decide (x∈f.names.take i)=a:=⟨_,rfl⟩
      rw [ha] at HAM HTn
      clear h1 h2 hb hc hx ha HTi
      cases a with
      | true =>
       have H:Hid (termsE (!outer) (f.fm .nil)=72):=by show _=_;rw [HT.out,HDE.out,HTn.out];rfl
       go_upto_region 24 with fail
       go_quiet (first|(go_at_call 117;exact Calls.quiet_of_same (HAM.out _))|fail)
       go_wp2_with fail
       go_ret
       exact ⟨by rw [H.out];rfl,below_drewN HBwi.out _⟩
      | false =>
       have HTn2:Hid (twiceB [] f.names=twiceB (f.names.take (i+1)) (f.names.drop (i+1))):=by show _=_;rw [HTn.out];rfl
       go_upto_region 24 with fail
       go_quiet (first|(go_at_call 117;exact Calls.quiet_of_same (HAM.out _))|fail)
       go_wp2_with fail
       go_roundw
       case rel=>exact ⟨i+1,by go_num,by omega,below_drewN HBi.out _,HTn2⟩
       case measure=>simp [intOf];omega
     ·have i1:¬ (i:Int)<(f.names.length:Int):=by omega
      have HTF:Hid (twiceB [] f.names=false):=by show _=_;rw [HTi.out,List.drop_eq_nil_of_le (by omega)];rfl
      rw [HTF.out] at HDE
      have H9:Hid (termsE (!outer) (f.fm .nil)=termsE true f.kids):=by show _=_;rw [HT.out,HDE.out];rfl
      clear HTi HTF
      go_upto_region 28 with fail
      obtain ⟨wk,rfl⟩:∃W,W=wr:=⟨_,rfl⟩
      have HQk:Hid (wk.heap[bq]?=some (Z9 f (.slice nr f.names.length nc) (.slice kr f.kids.len kc) (.slice dr f.dat.s.len dc))):=HQi.out
      obtain ⟨b,o,hab,hRd⟩:=(HRW.out _ HBwi.out).k
      have Hra:Hid (f.kids.len≠0→kr=some ⟨b,o,none⟩):=fun h=>hab.resolve_left h
      have HRd:Hid (RdF wk f.kids b o):=hRd
      have HNc:Hid (f.kids.len=0∨NcF wk f.kids b o):=by
       obtain ⟨b2,o2,hab2,hN⟩:=HNK.out _ HBwi.out
       by_cases h:f.kids.len=0
       ·exact .inl h
       ·have e1:=hab.resolve_left h
        have e2:=hab2.resolve_left h
        rw [e1] at e2
        cases e2
        exact .inr hN
      clear z0 z1 z2 z3 z4 z5 z6 z7 z8 lq hi hlt i1 HQi HBi hab hRd hnl
      go_loopw [13] (fun v wr=>∃(j:Nat) (r:Fm),v = .int .i64 j∧r.len+j=f.kids.len∧Hid (RdF wk r b (o+j*9))∧Hid (r.len=0∨NcF wk r b (o+j*9))∧Hid (EachF RTermC r)∧Hid r.oks∧Hid r.dsz∧Hid (Below wk.heap.size wk wr)∧Hid (termsE true f.kids=termsE true r)) (fun v _=>f.kids.len-(intOf v).toNat)
      case atStart=>exact ⟨0,f.kids,rfl,by simp,by simpa using HRd,by simpa using HNc,HA,HO,HDK,Below.refl _ _,rfl⟩
      case round =>
       obtain ⟨j,r,rfl,hj,HRr,HNr,HAr,HOr,HDr,HB,HEq⟩:=hrel
       have HQj:Hid _:=(HB.out.block _ (Array.getElem?_eq_some_iff.1 HQk.out).1).trans HQk.out
       have HB5:Hid (Below w.heap.size w wr):=HBwi.out.trans (HB.out.mono HBwi.out.size)
       obtain ⟨⟨z0,z1,z2,z3,z4,z5,z6,z7,z8⟩,_⟩:=cells9 HQj.out
       have lq:=cell_lt z0
       cases r with
       | nil =>
        have hj' : j=f.kids.len:=by simpa [Fm.len] using hj
        have i1:¬ ((j:Int)<(f.kids.len:Int)):=by omega
        clear hj hj'
        go_wp2_with fail
        go_ret
        exact ⟨by rw [H9.out,HEq.out];rfl,HB5.out⟩
       | cons k t ns ks dk dn dt ds dd r =>
        simp only [Fm.len] at hj
        have i1:(j:Int)<(f.kids.len:Int):=by omega
        have hra:=Hra.out (by omega)
        subst hra
        obtain ⟨hb0,nr2,nc2,kr2,kc2,dr2,dc2,⟨d0,d1,d2,d3,d4,d5,d6,d7,d8⟩,hrf,hr⟩:=rdf_cons HRr.out
        have hN:=HNr.out.resolve_left (by simp [Fm.len])
        have hnc2:ns.length≤nc2:=by
         obtain ⟨nr', nc', g,hle⟩:=hN.1
         have:=(show wk.cell? ⟨b,o+j*9+2,none⟩=_ from d2).symm.trans g
         have e:=Value.slice.inj (Option.some.inj this)
         rw [e.2.2];exact hle
        have hnk2:NcS wk kr2 ks:=by
         obtain ⟨kr', kc', b', o', g,hz,hk⟩:=hN.2.1
         have:=(show wk.cell? ⟨b,o+j*9+3,none⟩=_ from d3).symm.trans g
         have e:=Value.slice.inj (Option.some.inj this)
         rw [e.1];exact ⟨b', o', hz,hk⟩
        have HNr2:Hid (r.len=0∨NcF wk r b (o+j*9+9)) := .inr hN.2.2
        have Hr:Hid (RdF wk r b (o+j*9+9)):=hr
        have HAr2:Hid (EachF RTermC r):=HAr.out.2
        obtain ⟨hok1,hok2,hok3⟩:=HOr.out
        obtain ⟨hd1,hd2,hd3⟩:=HDr.out
        have HOr2:Hid r.oks:=hok3
        have HDr2:Hid r.dsz:=hd3
        have HCC:Hid (Calls Tryz.prog 75 #[.agg #[.int .u8 k,S t, .slice nr2 ns.length nc2, .slice kr2 ks.len kc2, .int .u8 dk, .int .i64 dn,S dt, .slice dr2 ds.len dc2, .bool dd], .bool false] wr fun e w' => e = .returned (.int .i64 (termsE true (Frm.fm ⟨k,t,ns,ks,⟨dk,dn,dt,ds,dd⟩⟩ .nil)))∧Below wr.heap.size wr w'):=HAr.out.1 false nr2 kr2 dr2 nc2 kc2 dc2 wr hok1 hok2 ⟨hd1,hd2,trivial⟩ (hrf.below HB.out) hnc2 (hnk2.below HB.out)
        have HEq2:Hid (termsE true f.kids=if termsE true (Frm.fm ⟨k,t,ns,ks,⟨dk,dn,dt,ds,dd⟩⟩ .nil)≠0 then termsE true (Frm.fm ⟨k,t,ns,ks,⟨dk,dn,dt,ds,dd⟩⟩ .nil) else termsE true r):=by
         show _=_
         rw [HEq.out,terms_one]
         show (if termE ⟨k,t,ns,ks,⟨dk,dn,dt,ds,dd⟩⟩ true≠0 then termE ⟨k,t,ns,ks,⟨dk,dn,dt,ds,dd⟩⟩ true else if termsE true ks≠0 then termsE true ks else termsE true r)=_
         by_cases h1:termE ⟨k,t,ns,ks,⟨dk,dn,dt,ds,dd⟩⟩ true=0
         ·by_cases h2:termsE true ks=0
          ·simp [h1,h2]
          ·simp [h1,h2]
         ·simp [h1]
        have bel:=HB.out
        have e0:=(bel.cell (p:=⟨b,_,none⟩) hb0).trans d0
        have e1:=(bel.cell (p:=⟨b,_,none⟩) hb0).trans d1
        have e2:=(bel.cell (p:=⟨b,_,none⟩) hb0).trans d2
        have e3:=(bel.cell (p:=⟨b,_,none⟩) hb0).trans d3
        have e4:=(bel.cell (p:=⟨b,_,none⟩) hb0).trans d4
        have e5:=(bel.cell (p:=⟨b,_,none⟩) hb0).trans d5
        have e6:=(bel.cell (p:=⟨b,_,none⟩) hb0).trans d6
        have e7:=(bel.cell (p:=⟨b,_,none⟩) hb0).trans d7
        have e8:=(bel.cell (p:=⟨b,_,none⟩) hb0).trans d8
        have lb:b<wr.heap.size:=Nat.lt_of_lt_of_le hb0 bel.size
        obtain ⟨y,hy⟩:∃y,termsE true (Frm.fm ⟨k,t,ns,ks,⟨dk,dn,dt,ds,dd⟩⟩ .nil)=y:=⟨_,rfl⟩
        rw [hy] at HCC HEq2
        clear d0 d1 d2 d3 d4 d5 d6 d7 d8 hrf hr hN hnc2 hnk2 hok1 hok2 hok3 hd1 hd2 hd3 bel hb0 hy
        go_wp2_with fail
        refine HCC.out.mono ?_
        rintro e w4 ⟨rfl,hb4⟩
        have HB4:Hid (Below wk.heap.size wk w4):=HB.out.trans (hb4.mono HB.out.size)
        have HB6:Hid (Below w.heap.size w w4):=HBwi.out.trans (HB4.out.mono HBwi.out.size)
        clear hb4 e0 e1 e2 e3 e4 e5 e6 e7 e8 lb z0 z1 z2 z3 z4 z5 z6 z7 z8 lq
        by_cases h0:y=0
        case neg =>
         have b0:(y != 0)=true:=by simpa using h0
         have H:Hid (termsE true f.kids=y):=by show _=_;rw [HEq2.out,if_pos h0]
         clear h0
         go_wp2_with fail
         go_ret
         exact ⟨by rw [H9.out,H.out];rfl,HB6.out⟩
        subst h0
        have H:Hid (termsE true f.kids=termsE true r):=by show _=_;rw [HEq2.out,if_neg (by simp)]
        have Hr2:Hid (RdF wk r b (o+(j+1)*9)):=by have:=Hr.out;show RdF wk r b (o+(j+1)*9);rw [show o+(j+1)*9=o+j*9+9 by omega];exact this
        have HNr3:Hid (r.len=0∨NcF wk r b (o+(j+1)*9)):=by have:=HNr2.out;show _∨_;rw [show o+(j+1)*9=o+j*9+9 by omega];exact this
        go_wp2_with fail
        go_roundw
        case rel=>exact ⟨j+1,r,by go_num,by omega,Hr2,HNr3,HAr2,HOr2,HDr2,HB4,H⟩
        case measure=>simp [intOf];omega
theorem rterm_all:∀g:Fm,EachF RTermC g
 | .nil=>trivial
 | .cons _ _ _ ks _ _ _ _ _ r=>⟨rterm_rec _ (rterm_all ks),rterm_all r⟩
theorem rterm_any (f:Frm):RTermC f:=rterm_rec f (rterm_all f.kids)
end Go.Proofs.YtkgnigloboajcaaGreatDoor
