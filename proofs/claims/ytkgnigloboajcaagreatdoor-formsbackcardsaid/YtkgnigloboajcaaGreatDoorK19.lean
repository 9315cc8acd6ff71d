/- Names that may be.; isName, isVariable, takesArguments, takes; what the parser asks of a datum.; Names that come a second time. -/
import Derived.Test.YtkgnigloboajcaaGreatDoorK18
import Derived.Deep.Cut
import Derived.Deep.CutBlock
import Derived.Deep.RegionHeld3
import Derived.Maps.OwnSet
set_option maxRecDepth 100000
set_option maxHeartbeats 4000000
namespace Go.Proofs.YtkgnigloboajcaaGreatDoor
open Go.RowKit
structure Env (w:World):Prop where
 ev:EV w
 tb:TB w
 pl:PL w
 sl:SL w
theorem Env.below {w w' : World} (h:Env w) (hb:Below w.heap.size w w'):Env w' := ⟨h.ev.below hb h.ev.lt,h.tb.below hb,h.pl.kept (hb.block _ h.pl.lt),h.sl.kept (hb.block _ h.sl.lt)⟩
theorem Fo.len_size:∀(f:Fo),f.len≤f.size
 | .nil=>Nat.le_refl _
 | .cons _ _ _ _ _ r=>by have:=Fo.len_size r;simp only [Fo.len,Fo.size];omega
structure DOk (x:Dt):Prop where
 size:x.s.size≤1000000
 t:x.t.length≤281474976710656
 tx:x.s.tx
theorem DOk.len {x:Dt} (h:DOk x):x.s.len≤1000000:=Nat.le_trans (Fo.len_size _) h.size
theorem rs_new {w:World} {x:Dt} {rk:Option Addr} {ck:Nat} (hR:RS w rk x.s) (hm:x.s.len≤maxLen):RS (w.alloc (.cells #[.int .u8 x.k, .int .i64 x.n,S x.t, .slice rk x.s.len ck, .bool x.d] 32)) (some ⟨w.heap.size,0,none⟩) (x.fo .nil):=by
 have hb:=(Below.refl _ w).alloc (Nat.le_refl w.heap.size) (.cells #[.int .u8 x.k, .int .i64 x.n,S x.t, .slice rk x.s.len ck, .bool x.d] 32)
 obtain ⟨b', o', hz,hs⟩:=hR.below hb
 refine ⟨w.heap.size,0, .inr rfl,⟨by simp,?_,?_,?_,?_,hm⟩,⟨rk,ck,b', o', ?_,hz,hs⟩,trivial⟩
 all_goals exact new_cell w _ _ _ _ rfl
theorem can_any (x:Dt) (rk:Option Addr) (ck:Nat) (w:World) (hX:DOk x) (hR:RS w rk x.s) (hE:Env w) :
  Calls Tryz.prog 48 #[datV x (.slice rk x.s.len ck)] w fun e w' => e = .returned (.bool (canB x))∧Below w.heap.size w w' := by
 have hm:=hX.len
 have HX:Hid (DOk x):=hX
 have HE:Hid (Env w):=hE
 have a1:=(Below.refl _ w).alloc (Nat.le_refl w.heap.size) (.cells #[.int .u8 x.k, .int .i64 x.n,S x.t, .slice rk x.s.len ck, .bool x.d] 32)
 have HR:Hid (RS (w.alloc (.cells #[.int .u8 x.k, .int .i64 x.n,S x.t, .slice rk x.s.len ck, .bool x.d] 32)) rk x.s):=hR.below a1
 have HB:Hid (Below w.heap.size w (w.alloc (.cells #[.int .u8 x.k, .int .i64 x.n,S x.t, .slice rk x.s.len ck, .bool x.d] 32))):=a1
 have hc:=fun j u h=>new_cell w #[.int .u8 x.k, .int .i64 x.n,S x.t, .slice rk x.s.len ck, .bool x.d] 32 j u h
 have c0:=hc 0 _ rfl
 have c1:=hc 1 _ rfl
 have c2:=hc 2 _ rfl
 have c3:=hc 3 _ rfl
 have c4:=hc 4 _ rfl
 have HS:Hid ((w.alloc (.cells #[.int .u8 x.k, .int .i64 x.n,S x.t, .slice rk x.s.len ck, .bool x.d] 32)).heap.size=w.heap.size+1):=by show _=_;simp
 clear hX hE hR hc a1
 go_enter Tryz.func48,Tryz.ntmps48
 go_upto_region 1 with fail
 generalize w.alloc (.cells #[.int .u8 x.k, .int .i64 x.n,S x.t, .slice rk x.s.len ck, .bool x.d] 32)=W at *
 go_wp2_with fail
 have a2:=(Below.refl _ W).alloc (Nat.le_refl W.heap.size) (.cells #[.int .u8 x.k, .int .i64 x.n,S x.t, .slice rk x.s.len ck, .bool x.d] 32)
 have hbw:=HB.out.trans (a2.mono HB.out.size)
 refine (write_fn (some ⟨W.heap.size,0,none⟩) 1 (x.fo .nil) _ (by show 1≤maxLen;unfold maxLen;omega) (by show x.s.size+0+1+1≤_;have:=HX.out.size;omega) ⟨HX.out.t,HX.out.tx,trivial⟩ (rs_new HR.out (by unfold maxLen;omega)) (HE.out.below hbw).ev (HE.out.below hbw).tb).mono ?_
 rintro e w1 ⟨rfl,hb1⟩
 have HB1:Hid (Below w.heap.size w w1):=hbw.trans (hb1.mono hbw.size)
 obtain ⟨y,hy⟩:∃y,(writeOf (x.fo .nil)).2=y:=⟨_,rfl⟩
 have HC:Hid (canB x=(y == 0)):=by show _=_;unfold canB;rw [hy]
 rw [hy]
 clear hbw hb1 a2 hy c0 c1 c2 c3 c4
 go_wp2
 go_ret
 exact ⟨by rw [HC.out];rfl,HB1.out⟩
def symD (s:List UInt8):Dt:=⟨2,0,s, .nil,false⟩
theorem symD_ok {s:List UInt8} (hs:s.length≤281474976710656):DOk (symD s):=⟨by simp [symD,Fo.size],hs,trivial⟩
theorem frs_nil (w:World) (rk:Option Addr):RS w rk .nil:=⟨0,0, .inl rfl,trivial⟩
theorem fsymbol_any (s:List UInt8) (w:World):Calls Tryz.prog 121 #[S s] w fun e w' => e = .returned (datV (symD s) (.slice none 0 0))∧Below w.heap.size w w' := by
 go_enter Tryz.func121,Tryz.ntmps121
 go_wp2
 refine bodyPost_ret (v := .agg #[.int .u8 2, .int .i64 0,S s, .slice none 0 0, .bool false]) (by simp [results,Tryz.results121,go_sem]) rfl ⟨rfl,?_⟩
 exact (Below.refl _ _).alloc (Nat.le_refl _) _
theorem isName_any (s:List UInt8) (w:World) (hs:s.length≤281474976710656) (hE:Env w) :
  Calls Tryz.prog 108 #[S s] w fun e w' => e = .returned (.bool (nameB s))∧Below w.heap.size w w' := by
 have HE:Hid (Env w):=hE
 have HN:Hid (nameB s=((kwOf s).isNone && canB (symD s))):=rfl
 clear hE
 go_enter Tryz.func108,Tryz.ntmps108
 go_wp2_with fail
 refine (keyword_any s w (by unfold maxLen;omega) HE.out.sl).mono ?_
 rintro e w1 ⟨rfl,hb1⟩
 cases hk:kwOf s with
 | some k =>
  have HK:Hid _:=hk
  have HB:Hid _:=hb1
  clear hk hb1
  simp only [kwV]
  go_wp2
  go_ret
  exact ⟨by rw [HN.out,HK.out];rfl,HB.out⟩
 | none =>
  have HK:Hid _:=hk
  have HB:Hid (Below w.heap.size w w1):=hb1
  clear hk hb1
  simp only [kwV]
  go_wp2_with fail
  refine (fsymbol_any s _).mono ?_
  rintro e w2 ⟨rfl,hb2⟩
  have HB2:Hid (Below w.heap.size w w2):=HB.out.trans (hb2.mono HB.out.size)
  clear hb2
  go_wp2_with fail
  refine (can_any (symD s) none 0 _ (symD_ok hs) (frs_nil _ _) (HE.out.below HB2.out)).mono ?_
  rintro e w3 ⟨rfl,hb3⟩
  have HB3:Hid (Below w.heap.size w w3):=HB2.out.trans (hb3.mono HB2.out.size)
  clear hb3
  go_wp2
  go_ret
  exact ⟨by rw [HN.out,HK.out];rfl,HB3.out⟩
theorem isVar_any (s:List UInt8) (w:World) (hs:s.length≤281474976710656) (hE:Env w) :
  Calls Tryz.prog 170 #[S s] w fun e w' => e = .returned (.bool (varB s))∧Below w.heap.size w w' := by
 have HE:Hid (Env w):=hE
 have HN:Hid (varB s=((primOf s).isNone && nameB s)):=rfl
 clear hE
 go_enter Tryz.func170,Tryz.ntmps170
 go_wp2_with fail
 refine (prim_any s w (by unfold maxLen;omega) HE.out.pl).mono ?_
 rintro e w1 ⟨rfl,hb1⟩
 have HB:Hid (Below w.heap.size w w1):=hb1
 cases hk:primOf s with
 | some k =>
  have HK:Hid _:=hk
  clear hk hb1
  simp only [primV]
  go_wp2
  go_ret
  exact ⟨by rw [HN.out,HK.out];rfl,HB.out⟩
 | none =>
  have HK:Hid _:=hk
  clear hk hb1
  simp only [primV]
  go_wp2_with fail
  refine (isName_any s _ hs (HE.out.below HB.out)).mono ?_
  rintro e w2 ⟨rfl,hb2⟩
  have HB2:Hid (Below w.heap.size w w2):=HB.out.trans (hb2.mono HB.out.size)
  clear hb2
  go_wp2
  go_ret
  exact ⟨by rw [HN.out,HK.out];rfl,HB2.out⟩
theorem args_any (s:List UInt8) (n:Int) (w:World) (hs:s.length≤281474976710656) (hE:Env w) :
  Calls Tryz.prog 172 #[S s, .int .i64 n] w fun e w' => e = .returned (.bool (argsB s n))∧Below w.heap.size w w' := by
 have HE:Hid (Env w):=hE
 have HN:Hid (argsB s n=match primOf s with|none=>true|some p=>argsOf p == n):=rfl
 clear hE
 go_enter Tryz.func172,Tryz.ntmps172
 go_wp2_with fail
 refine (prim_any s w (by unfold maxLen;omega) HE.out.pl).mono ?_
 rintro e w1 ⟨rfl,hb1⟩
 have HB:Hid (Below w.heap.size w w1):=hb1
 cases hk:primOf s with
 | some k =>
  have HK:Hid _:=hk
  clear hk hb1
  simp only [primV]
  go_wp2
  go_ret
  exact ⟨by rw [HN.out,HK.out];rfl,HB.out⟩
 | none =>
  have HK:Hid _:=hk
  clear hk hb1
  simp only [primV]
  go_wp2
  go_ret
  exact ⟨by rw [HN.out,HK.out];rfl,HB.out⟩
abbrev shpV (k:Nat):Value := .agg #[S (shpOf k).1, .int .i64 (shpOf k).2.1, .int .i64 (shpOf k).2.2.1, .int .i64 (shpOf k).2.2.2]
theorem takes_any (k:Nat) (n:Int) (w:World) :
  Calls Tryz.prog 149 #[shpV k, .int .i64 n] w fun e w' => e = .returned (.bool (takesB k n))∧Below w.heap.size w w' := by
 have HT:Hid (takesB k n=(decide ((shpOf k).2.2.1≤n) && decide (n≤(shpOf k).2.2.2))):=rfl
 obtain ⟨a,b,c,d,hx⟩:∃a b c d,shpOf k=(a,b,c,d):=⟨_,_,_,_,rfl⟩
 unfold shpV
 rw [hx] at HT ⊢
 by_cases h:c≤n
 ·have H:Hid (c≤n):=h
  go_enter Tryz.func149,Tryz.ntmps149
  go_wp2
  go_ret
  exact ⟨by rw [HT.out];simp [H.out],(((Below.refl _ w).alloc (Nat.le_refl _) _))⟩
 ·have H:Hid (decide (c≤n)=false):=decide_eq_false h
  have h2:n<c:=by omega
  go_enter Tryz.func149,Tryz.ntmps149
  go_wp2
  go_ret
  exact ⟨by rw [HT.out];simp [H.out],(((Below.refl _ w).alloc (Nat.le_refl _) _))⟩
theorem within_any (B pb mb:Nat) (ps:List Int) (w:World) (hP:PX w B pb mb ps) (hl:ps.length≤1000000) :
  Calls Tryz.prog 150 #[.pointer (some ⟨pb,0,none⟩)] w fun e w' => e = .returned (.bool (!ps.isEmpty))∧Below w.heap.size w w' := by
 obtain ⟨v,hv,ho⟩:=hP.ex
 obtain ⟨ra,cap,rfl⟩:=own_slice ho
 have c1:w.cell? ⟨pb,1,none⟩=some (.slice ra ps.length cap):=by simp [World.cell?,hv]
 have HL:Hid (decide ((0:Int)<(ps.length:Int)) = !ps.isEmpty):=by show _=_;cases ps<;>simp
 clear hP hv ho
 go_enter Tryz.func150,Tryz.ntmps150
 go_wp2
 go_ret
 exact ⟨by rw [←HL.out];simp,Below.refl _ _⟩
def Gone {α : Type} (B:Nat) (X:Nat→Prop) (pb mb:Nat) (ps:List Int) (w:World) (x:PR α) (Q : α → Ending→World→Prop) (e:Ending) (w' : World):Prop :=
 match x with
 | .ok a=>Q a e w' ∧ PX w' B pb mb ps∧KP B X w w'
 | .bad er p=>GaveUp B X er (ps++p) w e w'
abbrev boxD (x:Dt) (v:Value):Obj := .cells #[.int .u8 x.k, .int .i64 x.n,S x.t,v, .bool x.d] 32
theorem Gone.ok {α : Type} {B pb mb:Nat} {X:Nat→Prop} {ps:List Int} {w w' : World} {Q : α → Ending→World→Prop} {a : α} {e:Ending} (h:Q a e w') (h1:PX w' B pb mb ps) (h2:KP B X w w'):Gone B X pb mb ps w (.ok a) Q e w' := ⟨h,h1,h2⟩
theorem GaveUp.elder {B:Nat} {X:Nat→Prop} {er:Int} {ps:List Int} {w w1 w' : World} {e:Ending} (h:GaveUp B X er ps w1 e w') (k:KP B X w w1):GaveUp B X er ps w e w' := by
 obtain ⟨v,h1,h2,h3⟩:=h
 exact ⟨v,h1,own_mono h2 k.size,k.trans h3⟩
theorem GaveUp.cast {B:Nat} {X:Nat→Prop} {er:Int} {ps ps' : List Int} {w w' : World} {e:Ending} (h:GaveUp B X er ps w e w') (hp:ps=ps'):GaveUp B X er ps' w e w' := hp ▸ h
theorem GaveUp.more {B:Nat} {X Y:Nat→Prop} {er:Int} {ps:List Int} {w w' : World} {e:Ending} (h:GaveUp B X er ps w e w') (hx:∀g,g<w.heap.size→X g→Y g):GaveUp B Y er ps w e w' := by
 obtain ⟨v,h1,h2,h3⟩:=h
 exact ⟨v,h1,h2,h3.mono hx⟩
theorem mustBe_any (B pb mb:Nat) (ps:List Int) (x:Dt) (v:Value) (w:World) (hP:PX w B pb mb ps) (hl:ps.length≤1000000) (hv:∃rk ck,v = .slice rk x.s.len ck) :
  Calls Tryz.prog 168 #[.pointer (some ⟨pb,0,none⟩),datV x v] w (Gone B (isP pb) pb mb ps w (if isListB x.k x.d then .ok () else .bad 70 []) fun _ e _=>∃v,e = .returned v):=by
 obtain ⟨rk,ck,rfl⟩:=hv
 have HP:Hid (PX w B pb mb ps):=hP
 clear hP
 obtain ⟨k,n,t,s,d⟩:=x
 by_cases hk:k=5
 ·subst hk
  cases d
  ·rw [show (if isListB 5 false=true then PR.ok () else PR.bad 70 [])=PR.ok () from rfl]
   obtain ⟨W,hW⟩:∃W,w.alloc (boxD ⟨5,n,t,s,false⟩ (.slice rk s.len ck))=W:=⟨_,rfl⟩
   have a1:=(Below.refl _ w).alloc (Nat.le_refl w.heap.size) (boxD ⟨5,n,t,s,false⟩ (.slice rk s.len ck))
   have HPW:Hid (PX W B pb mb ps):=by rw [←hW];exact HP.out.same a1
   have HB:Hid (Below w.heap.size w W):=by rw [←hW];exact a1
   have q0:W.heap[w.heap.size]?=some (.cells #[.int .u8 5, .int .i64 n,S t, .slice rk s.len ck, .bool false] 32 (0,0)):=by rw [←hW];exact World.alloc_heap_new _ _
   obtain ⟨c0,c1,c2,c3,c4,_⟩:=cells5 q0
   clear a1 q0 c1 c3
   go_enter Tryz.func168,Tryz.ntmps168
   go_upto_region 1 with fail
   clear hW
   go_wp2
   exact bodyPost_end (results_none rfl _ _ _) rfl (Gone.ok ⟨_,rfl⟩ HPW.out (KP.of HB.out))
  ·rw [show (if isListB 5 true=true then PR.ok () else PR.bad 70 [])=PR.bad 70 [] from rfl]
   obtain ⟨W,hW⟩:∃W,w.alloc (boxD ⟨5,n,t,s,true⟩ (.slice rk s.len ck))=W:=⟨_,rfl⟩
   have a1:=(Below.refl _ w).alloc (Nat.le_refl w.heap.size) (boxD ⟨5,n,t,s,true⟩ (.slice rk s.len ck))
   have HPW:Hid (PX W B pb mb ps):=by rw [←hW];exact HP.out.same a1
   have HB:Hid (Below w.heap.size w W):=by rw [←hW];exact a1
   have q0:W.heap[w.heap.size]?=some (.cells #[.int .u8 5, .int .i64 n,S t, .slice rk s.len ck, .bool true] 32 (0,0)):=by rw [←hW];exact World.alloc_heap_new _ _
   obtain ⟨c0,c1,c2,c3,c4,_⟩:=cells5 q0
   clear a1 q0 c1 c3
   go_enter Tryz.func168,Tryz.ntmps168
   go_upto_region 1 with fail
   clear hW
   go_wp2_with fail
   refine (giveUp_any B pb mb ps 70 _ HPW.out hl).mono ?_
   rintro e w1 ⟨v', rfl,h1,h2⟩
   go_wp2_with fail
   exact ⟨rfl,(GaveUp.elder ⟨v', rfl,h1,h2⟩ (KP.of HB.out)).cast (by simp)⟩
 ·have hk' : (k == 5)=false:=beq_eq_false_iff_ne.2 hk
  rw [show (if isListB k d=true then PR.ok () else PR.bad 70 [])=PR.bad 70 [] by unfold isListB;rw [hk'];rfl]
  obtain ⟨W,hW⟩:∃W,w.alloc (boxD ⟨k,n,t,s,d⟩ (.slice rk s.len ck))=W:=⟨_,rfl⟩
  have a1:=(Below.refl _ w).alloc (Nat.le_refl w.heap.size) (boxD ⟨k,n,t,s,d⟩ (.slice rk s.len ck))
  have HPW:Hid (PX W B pb mb ps):=by rw [←hW];exact HP.out.same a1
  have HB:Hid (Below w.heap.size w W):=by rw [←hW];exact a1
  have q0:W.heap[w.heap.size]?=some (.cells #[.int .u8 k, .int .i64 n,S t, .slice rk s.len ck, .bool d] 32 (0,0)):=by rw [←hW];exact World.alloc_heap_new _ _
  obtain ⟨c0,c1,c2,c3,c4,_⟩:=cells5 q0
  clear a1 q0 c1 c3
  have hk2:(k != 5)=true:=by simp [hk]
  clear hk
  go_enter Tryz.func168,Tryz.ntmps168
  go_upto_region 1 with fail
  clear hW
  go_wp2_with fail
  refine (giveUp_any B pb mb ps 70 _ HPW.out hl).mono ?_
  rintro e w1 ⟨v', rfl,h1,h2⟩
  go_wp2_with fail
  exact ⟨rfl,(GaveUp.elder ⟨v', rfl,h1,h2⟩ (KP.of HB.out)).cast (by simp)⟩
theorem variable_any (B pb mb:Nat) (ps:List Int) (x:Dt) (v:Value) (w:World) (hP:PX w B pb mb ps) (hl:ps.length≤1000000) (hv:∃rk ck,v = .slice rk x.s.len ck) (hE:Env w) (ht:x.t.length≤281474976710656) :
  Calls Tryz.prog 145 #[.pointer (some ⟨pb,0,none⟩),datV x v] w (Gone B (isP pb) pb mb ps w (variM x.k x.t) fun a e _=>e = .returned (S a)):=by
 obtain ⟨rk,ck,rfl⟩:=hv
 have HP:Hid (PX w B pb mb ps):=hP
 have HE:Hid (Env w):=hE
 clear hP hE
 obtain ⟨k,n,t,s,d⟩:=x
 by_cases hk:k=2
 ·subst hk
  cases hvb:varB t
  ·rw [show variM 2 t=PR.bad 71 [] by unfold variM;rw [hvb];rfl]
   have HV:Hid _:=hvb
   clear hvb
   obtain ⟨W,hW⟩:∃W,w.alloc (boxD ⟨2,n,t,s,d⟩ (.slice rk s.len ck))=W:=⟨_,rfl⟩
   have a1:=(Below.refl _ w).alloc (Nat.le_refl w.heap.size) (boxD ⟨2,n,t,s,d⟩ (.slice rk s.len ck))
   have HPW:Hid (PX W B pb mb ps):=by rw [←hW];exact HP.out.same a1
   have HB:Hid (Below w.heap.size w W):=by rw [←hW];exact a1
   have q0:W.heap[w.heap.size]?=some (.cells #[.int .u8 2, .int .i64 n,S t, .slice rk s.len ck, .bool d] 32 (0,0)):=by rw [←hW];exact World.alloc_heap_new _ _
   obtain ⟨c0,c1,c2,c3,c4,_⟩:=cells5 q0
   clear a1 q0 c1 c3
   go_enter Tryz.func145,Tryz.ntmps145
   go_upto_region 1 with fail
   clear hW
   go_wp2_with fail
   refine (isVar_any t W ht (HE.out.below HB.out)).mono ?_
   rintro e w0 ⟨rfl,hb0⟩
   have HB0:Hid (Below w.heap.size w w0):=HB.out.trans (hb0.mono HB.out.size)
   have HP0:Hid (PX w0 B pb mb ps):=HPW.out.same hb0
   rw [HV.out]
   clear hb0 c0 c2 c4
   go_wp2_with fail
   refine (giveUp_any B pb mb ps 71 _ HP0.out hl).mono ?_
   rintro e w1 ⟨v', rfl,h1,h2⟩
   go_wp2_with fail
   exact ⟨rfl,(GaveUp.elder ⟨v', rfl,h1,h2⟩ (KP.of HB0.out)).cast (by simp)⟩
  ·rw [show variM 2 t=PR.ok t by unfold variM;rw [hvb];rfl]
   have HV:Hid _:=hvb
   clear hvb
   obtain ⟨W,hW⟩:∃W,w.alloc (boxD ⟨2,n,t,s,d⟩ (.slice rk s.len ck))=W:=⟨_,rfl⟩
   have a1:=(Below.refl _ w).alloc (Nat.le_refl w.heap.size) (boxD ⟨2,n,t,s,d⟩ (.slice rk s.len ck))
   have HPW:Hid (PX W B pb mb ps):=by rw [←hW];exact HP.out.same a1
   have HB:Hid (Below w.heap.size w W):=by rw [←hW];exact a1
   have q0:W.heap[w.heap.size]?=some (.cells #[.int .u8 2, .int .i64 n,S t, .slice rk s.len ck, .bool d] 32 (0,0)):=by rw [←hW];exact World.alloc_heap_new _ _
   obtain ⟨c0,c1,c2,c3,c4,_⟩:=cells5 q0
   clear a1 q0 c1 c3
   go_enter Tryz.func145,Tryz.ntmps145
   go_upto_region 1 with fail
   clear hW
   go_wp2_with fail
   refine (isVar_any t W ht (HE.out.below HB.out)).mono ?_
   rintro e w0 ⟨rfl,hb0⟩
   have HB0:Hid (Below w.heap.size w w0):=HB.out.trans (hb0.mono HB.out.size)
   have HP0:Hid (PX w0 B pb mb ps):=HPW.out.same hb0
   have c2' := (hb0.cell (p:=⟨w.heap.size,2,none⟩) (by have:=cell_lt c2;exact this)).trans c2
   rw [HV.out]
   clear hb0 c0 c2 c4
   go_wp2
   go_ret
   exact Gone.ok rfl HP0.out (KP.of HB0.out)
 ·have hk' : (k == 2)=false:=beq_eq_false_iff_ne.2 hk
  rw [show variM k t=PR.bad 71 [] by unfold variM;simp [hk]]
  obtain ⟨W,hW⟩:∃W,w.alloc (boxD ⟨k,n,t,s,d⟩ (.slice rk s.len ck))=W:=⟨_,rfl⟩
  have a1:=(Below.refl _ w).alloc (Nat.le_refl w.heap.size) (boxD ⟨k,n,t,s,d⟩ (.slice rk s.len ck))
  have HPW:Hid (PX W B pb mb ps):=by rw [←hW];exact HP.out.same a1
  have HB:Hid (Below w.heap.size w W):=by rw [←hW];exact a1
  have q0:W.heap[w.heap.size]?=some (.cells #[.int .u8 k, .int .i64 n,S t, .slice rk s.len ck, .bool d] 32 (0,0)):=by rw [←hW];exact World.alloc_heap_new _ _
  obtain ⟨c0,c1,c2,c3,c4,_⟩:=cells5 q0
  clear a1 q0 c1 c3
  have hk2:(k != 2)=true:=by simp [hk]
  clear hk
  go_enter Tryz.func145,Tryz.ntmps145
  go_upto_region 1 with fail
  clear hW
  go_wp2_with fail
  refine (giveUp_any B pb mb ps 71 _ HPW.out hl).mono ?_
  rintro e w1 ⟨v', rfl,h1,h2⟩
  go_wp2_with fail
  exact ⟨rfl,(GaveUp.elder ⟨v', rfl,h1,h2⟩ (KP.of HB.out)).cast (by simp)⟩
open Go.RowKit Go.Maps Go.ChangeMaps
def NM (w:World) (b n:Nat) (l:List (List UInt8)):Prop:=∃D:DataW Unit,w.ownsMap Tryz.prog 9 unitElem b n D∧(∀s:List UInt8,has D (.string s)=decide (s∈l))
theorem NM.made (w:World):NM (w.alloc (.map #[] 0)) w.heap.size 0 []:=⟨.map [],World.ownsMap_made w _ _ _,fun _=>rfl⟩
theorem NM.kept {w w' : World} {b n:Nat} {l:List (List UInt8)} (h:NM w b n l) (hb:w'.heap[b]?=w.heap[b]?):NM w' b n l:=by
 obtain ⟨D,⟨es,clock,h2,h3,h4,h5⟩,h6⟩:=h
 exact ⟨D,⟨es,clock,hb.trans h2,h3,h4,h5⟩,h6⟩
theorem NM.map {w:World} {b n:Nat} {l:List (List UInt8)} (h:NM w b n l):∃es clock,w.heap[b]?=some (.map es clock):=by
 obtain ⟨D,⟨es,clock,h2,_⟩,_⟩:=h
 exact ⟨es,clock,h2⟩
theorem NM.lt {w:World} {b n:Nat} {l:List (List UInt8)} (h:NM w b n l):b<w.heap.size:=by
 obtain ⟨es,c,hm⟩:=h.map
 exact (Array.getElem?_eq_some_iff.1 hm).1
theorem NM.notInt {w:World} {b n:Nat} {l:List (List UInt8)} (h:NM w b n l):¬ IntB w b:=by
 obtain ⟨es,c,hm⟩:=h.map
 rintro ⟨c', f,q⟩;rw [hm] at q;cases q
theorem NM.look {w:World} {b n:Nat} {l:List (List UInt8)} (h:NM w b n l) (s:List UInt8) (hs:s.length≤maxLen):(Instr.lookup 137 (.map (some b)) (S s) true).run Tryz.prog w = .ok (.tuple #[.agg #[], .bool (decide (s∈l))]) w:=by
 obtain ⟨D,h1,h2⟩:=h
 obtain ⟨v,ps,hrun,hv⟩:=h1.look_ok (string_keyed Tryz.underlying9) Tryz.underlying137 (z := .agg #[]) (Tryz.zeroValue243 w) unitElem_mk (str_key hs)
 obtain ⟨rfl,_⟩:=unitElem_inv hv
 rw [hrun,h2 s]
theorem NM.put {w:World} {b n:Nat} {l:List (List UInt8)} (h:NM w b n l) (hn:n<maxLen) (s:List UInt8) (hs:s.length≤maxLen):∃w', (Instr.mapUpdate 137 (.map (some b)) (S s) (.agg #[])).run Tryz.prog w = .ok () w' ∧ NM w' b (n+1) (l++[s])∧w.grownBy w' (some b):=by
 obtain ⟨D,h1,h2⟩:=h
 obtain ⟨w', hrun,ho,hg⟩:=h1.update (string_keyed Tryz.underlying9) Tryz.underlying137 hn (str_key hs) (unitElem_mk (H:=Unit))
 refine ⟨w', hrun,⟨_,ho,fun t=>?_⟩,hg⟩
 by_cases he:t=s
 ·subst he
  rw [has_put_same h1.isMap (by simp [WideAt.IsKeyLit])]
  simp
 ·rw [has_put_other (fun e=>he (Lit.string.inj e)),h2 t]
  simp [he]
theorem add_set (w:World) (m n:Nat) (l:List (List UInt8)) (s:List UInt8) (h:NM w m n l) (hn:n≤1000000) (hs:s.length≤281474976710656) :
  Calls Tryz.prog 158 #[.map (some m),S s] w fun e w' => e = .returned (.bool (!decide (s∈l)))∧NM w' m (n+1) (l++[s])∧w.heap.size≤w'.heap.size∧(∀g,g<w.heap.size→g≠m→w'.heap[g]?=w.heap[g]?)∧w'.os=w.os∧w'.tape=w.tape∧w'.output=w.output:=by
 have hml:281474976710656≤maxLen:=by unfold maxLen;omega
 have HM:Hid (NM w m n l):=h
 have hlt:=h.lt
 have q:=h.look s (by omega)
 have a1:=(Below.refl _ w).alloc (Nat.le_refl w.heap.size) (.cells #[] 243)
 obtain ⟨w2,hr,hn2,hg⟩:=(h.kept (w' := w.alloc (.cells #[] 243)) (a1.block _ hlt)).put (by omega) s (by omega)
 have HN2:Hid (NM w2 m (n+1) (l++[s])):=hn2
 have HG:Hid (w.heap.size≤w2.heap.size∧(∀g,g<w.heap.size→g≠m→w2.heap[g]?=w.heap[g]?)∧w2.os=w.os∧w2.tape=w.tape∧w2.output=w.output):=by
  refine ⟨by have:=hg.size;simp at this;omega,fun g h1 h2=>(hg.block g (by simp;omega) (fun e=>h2 (Option.some.inj e))).trans (a1.block g h1),hg.os.trans a1.os,hg.tape.trans a1.tape,hg.output.trans a1.output⟩
 obtain ⟨y,hy⟩:∃y,decide (s∈l)=y:=⟨_,rfl⟩
 rw [hy] at q ⊢
 clear h hn2 hg a1 hy
 go_enter Tryz.func158,Tryz.ntmps158
 go_wp2
 go_ret
 exact ⟨rfl,HN2.out,HG.out⟩
end Go.Proofs.YtkgnigloboajcaaGreatDoor
