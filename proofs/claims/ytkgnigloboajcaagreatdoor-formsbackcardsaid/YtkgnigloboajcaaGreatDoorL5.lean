/- What the document's writing leaves in memory: rows of data whose kids are read.; The document's written: names and quotes.; The document's written: lists.; The document's free names, by lists, are the program's, by counts.; The document's free names: the walk.; The document's written, Back, Check. -/
import Derived.Test.YtkgnigloboajcaaGreatDoorL4
import Derived.Deep.DeepCutAuto
import Derived.Deep.RegionHeld3
import Derived.Shelf.RegionOpenPlain
import Derived.Deep.CutBlock
import Derived.Test.YtkgnigloboajcaaGreatDoorK41
set_option maxRecDepth 100000
set_option maxHeartbeats 32000000
namespace Go.Proofs.YtkgnigloboajcaaGreatDoor
open Go.RowKit
def RKs (w:World):Fo→List Value→Prop
 | .nil,cs=>cs=[]
 | .cons k n t s d r,cs=>∃kr kc rcs,cs = .int .u8 k :: .int .i64 n::S t :: .slice kr s.len kc :: .bool d::rcs∧s.len≤maxLen∧RS w kr s∧RKs w r rcs
theorem RKs.app {w:World}:∀{f g:Fo} {cs cs' : List Value},RKs w f cs→RKs w g cs' → RKs w (f.app g) (cs++cs')
 | .nil,_,_,_,h,h' => by rw [show _=[] from h];exact h'
 | .cons _ _ _ _ _ _,_,_,_,⟨kr,kc,rcs,h1,h2,h3,h4⟩,h' => ⟨kr,kc,rcs++_,by rw [h1];rfl,h2,h3,RKs.app h4 h'⟩
theorem RKs.rd {w:World}:∀{f:Fo} {cs:List Value} {g o:Nat},RKs w f cs→g<w.heap.size→(∀j u,cs[j]?=some u→w.cell? ⟨g,o+j,none⟩=some u)→Rd w g o f
 | .nil,_,_,_,_,_,_=>trivial
 | .cons k n t s d r,cs,g,o,⟨kr,kc,rcs,h1,h2,h3,h4⟩,hg,hc=>by
  subst h1
  obtain ⟨b', o', hz,hs⟩:=h3
  refine ⟨⟨hg,hc 0 _ rfl,hc 1 _ rfl,hc 2 _ rfl,hc 4 _ rfl,h2⟩,⟨kr,kc,b', o', hc 3 _ rfl,hz,hs⟩,RKs.rd h4 hg (fun j u hj=>?_)⟩
  have:=hc (j+5) u (by simpa using hj)
  rwa [show o+(j+5)=o+5+j by omega] at this
theorem RKs.single {w:World} {k n:Int} {t:List UInt8} {s:Fo} {d:Bool} {kr:Option Addr} {kc:Nat} (h:s.len≤maxLen) (hs:RS w kr s):RKs w (.cons k n t s d .nil) [.int .u8 k, .int .i64 n,S t, .slice kr s.len kc, .bool d]:=⟨kr,kc,[],rfl,h,hs,rfl⟩
def Since (w0:World) (m:Nat) (W:World) (own:Option Nat) (P:World→Prop):Prop:=∀W', Below w0.heap.size w0 W' → (∀g,m≤g→g<W.heap.size→own≠some g→W'.heap[g]?=W.heap[g]?)→P W'
theorem Since.mono {w0 W:World} {m m' : Nat} {own:Option Nat} {P:World→Prop} (h:Since w0 m W own P) (hm:m' ≤ m):Since w0 m' W own P:=fun W' hb hk=>h W' hb fun g hg=>hk g (by omega)
theorem Since.step {w0 W W1:World} {m:Nat} {own:Option Nat} {P:World→Prop} (h:Since w0 m W own P) (hs:W.heap.size≤W1.heap.size) (hk:∀g,m≤g→g<W.heap.size→own≠some g→W1.heap[g]?=W.heap[g]?):Since w0 m W1 own P :=
 fun W' hb hx=>h W' hb fun g h1 h2 h3=>(hx g h1 (by omega) h3).trans (hk g h1 h2 h3)
theorem Since.below {w0 W W1:World} {m:Nat} {own:Option Nat} {P:World→Prop} (h:Since w0 m W own P) (hb:Below W.heap.size W W1):Since w0 m W1 own P:=h.step hb.size fun g _ h2 _=>hb.block g h2
theorem Since.now {w0 W:World} {m:Nat} {own:Option Nat} {P:World→Prop} (h:Since w0 m W own P) (hb:Below w0.heap.size w0 W):P W:=h W hb fun _ _ _ _=>rfl
theorem since_home {w0 W:World} {m:Nat} {own:Option Nat} {kr:Option Addr} {s:Fo} (h:RS w0 kr s):Since w0 m W own (fun W' => RS W' kr s):=fun _ hb _=>h.below hb
structure LRow (w0:World) (m:Nat) (W:World) (v:Value) (f:Fo):Prop where
 ex:∃cs,W.ownsRow m 32 5 v f.len cs∧Since w0 m W v.ownBlock (fun W' => RKs W' f cs)
theorem LRow.nil (w0:World) (m:Nat) (W:World):LRow w0 m W (.slice none 0 0) .nil:=⟨[],World.ownsRow_nil _ _ _ _,fun _ _ _=>rfl⟩
theorem LRow.kept {w0 W W1:World} {m:Nat} {v:Value} {f:Fo} (h:LRow w0 m W v f) (hs:W.heap.size≤W1.heap.size) (hk:∀g,m≤g→g<W.heap.size→W1.heap[g]?=W.heap[g]?):LRow w0 m W1 v f:=by
 obtain ⟨cs,h1,h2⟩:=h.ex
 exact ⟨cs,own_same h1 (fun g hg=>hk g (h1.lt g hg).1 (h1.lt g hg).2),h2.step hs fun g h1 h2 _=>hk g h1 h2⟩
theorem LRow.below {w0 W W1:World} {m:Nat} {v:Value} {f:Fo} (h:LRow w0 m W v f) (hb:Below W.heap.size W W1):LRow w0 m W1 v f:=h.kept hb.size fun g _ h2=>hb.block g h2
theorem LRow.fin {w0 W:World} {m:Nat} {v:Value} {f:Fo} (h:LRow w0 m W v f):∃ra c,v = .slice ra f.len c∧f.len≤maxLen∧Since w0 m W none (fun W' => RS W' ra f):=by
 obtain ⟨cs,h1,h2⟩:=h.ex
 obtain ⟨ra,c,hc,hl,hm⟩:=own_cap h1
 subst hc
 refine ⟨ra,c,rfl,hm,fun W' hb hk=>?_⟩
 have ho:W'.ownsRow m 32 5 (.slice ra f.len c) f.len cs:=own_same h1 (fun g hg=>hk g (h1.lt g hg).1 (h1.lt g hg).2 (by simp))
 have hr:=h2 W' hb fun g h3 h4 _=>hk g h3 h4 (by simp)
 rcases ho.2 with ⟨_,h0⟩|⟨g', cap', cur,hv,_⟩
 ·refine ⟨0,0, .inl h0,?_⟩
  cases f with
  | nil=>trivial
  | cons=>simp [Fo.len] at h0
 ·cases hv
  refine ⟨g', 0, .inr rfl,hr.rd (ho.lt g' rfl).2 (fun j u hj=>?_)⟩
  have:=ho.cells rfl j u hj
  rw [addr_add] at this
  rw [Nat.zero_add]
  exact this
theorem LRow.snoc {w0 W W1:World} {m n cap gb:Nat} {v:Value} {f:Fo} {cs:List Value} {k nn:Int} {t:List UInt8} {s:Fo} {d:Bool} {kr:Option Addr} {kc:Nat} (_h1:W.ownsRow m 32 5 v n cs) (hn:f.len=n) (h2:Since w0 m W v.ownBlock (fun W' => RKs W' f cs)) (hs:s.len≤maxLen) (he:Since w0 m W v.ownBlock (fun W' => RS W' kr s))
  (hown:W1.ownsRow m 32 5 (.slice (some ⟨gb,0,none⟩) (n+1) cap) (n+1) (cs++[.int .u8 k, .int .i64 nn,S t, .slice kr s.len kc, .bool d])) (hgr:W.grownBy W1 v.ownBlock) (hat:v.ownBlock=some gb∨gb=W.heap.size) :
  LRow w0 m W1 (.slice (some ⟨gb,0,none⟩) (n+1) cap) (f.app (.cons k nn t s d .nil)):=by
 refine ⟨cs++[.int .u8 k, .int .i64 nn,S t, .slice kr s.len kc, .bool d],by rw [Fo.len_app,hn];exact hown,fun W' hb hk=>?_⟩
 have hx:∀g,m≤g→g<W.heap.size→v.ownBlock≠some g→W'.heap[g]?=W.heap[g]?:=fun g h3 h4 h5=>by
  have h6:g≠gb:=by
   rcases hat with h|h
   ·intro e;subst e;exact h5 h
   ·omega
  exact (hk g h3 (Nat.lt_of_lt_of_le h4 hgr.size) (fun e=>h6 (Option.some.inj e).symm)).trans (hgr.block g h4 (fun e=>h5 e.symm))
 exact (h2 W' hb hx).app (.single hs (he W' hb hx))
theorem Since.but {w0 W:World} {m m' : Nat} {own:Option Nat} {P:World→Prop} (h:Since w0 m' W none P) (hm:m≤m') (ho:∀g,own=some g→g<m'):Since w0 m W own P :=
 fun W' hb hk=>h W' hb fun g h1 h2 _=>hk g (by omega) h2 (fun e=>by have:=ho g e;omega)
theorem LRow.lt {w0 W:World} {m:Nat} {v:Value} {f:Fo} (h:LRow w0 m W v f):∀g,v.ownBlock=some g→m≤g∧g<W.heap.size:=by
 obtain ⟨cs,h1,_⟩:=h.ex
 exact fun g hg=>h1.lt g hg
theorem wpList_append_lrow {ops:Array Oper} {rest:List Oper} {o:Oper} {a:Act} {Q:Exit→Act→World→Prop} (hgd:o.guard=none) (s x:Operand)
  (ho:o.op = .call { callee := .builtin .append,args := #[s,x],argTypes := #[30,30] }) (w0 W:World) (m n:Nat) (f:Fo) (v:Value) (hs:a.eval s=v) (hL:LRow w0 m W v f) (hn:f.len=n) (hm:m≤W.heap.size) (hn2:n≤2000000)
  (k nn:Int) (t:List UInt8) (s' : Fo) (d:Bool) (kr:Option Addr) (kc sl:Nat) (hsl:s'.len=sl) (hl:sl≤maxLen) (he:Since w0 m W v.ownBlock (fun W' => RS W' kr s')) (gx:Nat) (hgx:W.heap.size=gx) (hx:a.eval x = .slice (some ⟨gx,0,none⟩) 1 1)
  (h:∀gb cap w', LRow w0 m w' (.slice (some ⟨gb,0,none⟩) (n+1) cap) (f.app (.cons k nn t s' d .nil))→Below m W w' → wpList Tryz.prog ops Q rest (a.put o.dst (.slice (some ⟨gb,0,none⟩) (n+1) cap)) w') :
  wpList Tryz.prog ops Q (o::rest) a (W.alloc (.cells #[.int .u8 k, .int .i64 nn,S t, .slice kr sl kc, .bool d] 32)):=by
 subst hsl
 obtain ⟨i0,hi0,hz0,hz1,hz2⟩:=info_parts infoDat
 obtain ⟨cs,h1,h2⟩:=hL.ex
 rw [hn] at h1
 have hb:Below W.heap.size W (W.alloc (.cells #[.int .u8 k, .int .i64 nn,S t, .slice kr s'.len kc, .bool d] 32)):=(Below.refl _ _).alloc (Nat.le_refl _) _
 refine wpList_append_lies _ hgd s x _ ho m 32 i0 (.agg #[.int .u8 0, .int .i64 0, .string ⟨#[]⟩, .slice none 0 0, .bool false]) 5 64 Tryz.underlying30 hi0 hz0 hz1 hz2 rfl (by decide) v n cs hs (World.ownsRow.alloc h1 _) ⟨gx,0,none⟩ 1 1 [.int .u8 k, .int .i64 nn,S t, .slice kr s'.len kc, .bool d] hx rfl (cell_five_at _ _ hgx _ _ _ _ _ _) (five_one _ _ _ _ _ _ _) (by omega) (by unfold maxLen;omega) (by omega) (by rw [World.size_alloc];omega) _ rfl ?_
 intro gb cap6 w6 hown hgr hat hlt6
 refine h gb cap6 w6 (LRow.snoc (World.ownsRow.alloc h1 _) hn (h2.step (by rw [World.size_alloc];omega) fun g _ h3 _=>hb.block g h3) hl (he.step (by rw [World.size_alloc];omega) fun g _ h3 _=>hb.block g h3) hown hgr hat) ?_
 exact ((Below.refl m W).alloc hm _).trans ((Below.refl _ _).grown hgr (by rw [World.size_alloc];omega) (fun k' hk=>(h1.lt k' hk).1))
theorem lrow_lit2 {w0 W:World} {m:Nat} {k1 n1 k2 n2:Int} {t1 t2:List UInt8} {s1 s2:Fo} {d1 d2:Bool} {r1 r2:Option Addr} {c1 c2:Nat} (hm:m≤W.heap.size) (h1:s1.len≤maxLen) (h2:s2.len≤maxLen) (e1:Since w0 m W none (fun W' => RS W' r1 s1)) (e2:Since w0 m W none (fun W' => RS W' r2 s2)) :
  LRow w0 m (W.alloc (.cells #[.int .u8 k1, .int .i64 n1,S t1, .slice r1 s1.len c1, .bool d1, .int .u8 k2, .int .i64 n2,S t2, .slice r2 s2.len c2, .bool d2] 32)) (.slice (some ⟨W.heap.size,0,none⟩) 2 2) (.cons k1 n1 t1 s1 d1 (.cons k2 n2 t2 s2 d2 .nil)):=by
 refine ⟨[.int .u8 k1, .int .i64 n1,S t1, .slice r1 s1.len c1, .bool d1, .int .u8 k2, .int .i64 n2,S t2, .slice r2 s2.len c2, .bool d2],⟨by simp [Fo.len], .inr ⟨W.heap.size,2,_,rfl,hm,World.alloc_heap_new _ _,by simp [Fo.len],by unfold maxLen;omega,rfl,rfl⟩⟩,fun W' hb hk=>?_⟩
 have hx:∀g,m≤g→g<W.heap.size→(none:Option Nat)≠some g→W'.heap[g]?=W.heap[g]?:=fun g h3 h4 _=>(hk g h3 (by rw [World.size_alloc];omega) (fun e=>by have:W.heap.size=g:=Option.some.inj e;omega)).trans (Below.heap_alloc _ _ _ h4)
 exact ⟨r1,c1,_,rfl,h1,e1 W' hb hx,r2,c2,[],rfl,h2,e2 W' hb hx,rfl⟩
def RWr (f:Frm):Prop:=∀(w0:World) (nr kr dr:Option Addr) (nc kc dc:Nat) (w:World),RFo w0 f nr kr dr→Below w0.heap.size w0 w →
 Calls Tryz.prog 76 #[frmV f (.slice nr f.names.length nc) (.slice kr f.kids.len kc) (.slice dr f.dat.s.len dc)] w fun e w' => ∃rk ck,e = .returned (datV (wrD f) (.slice rk (wrD f).s.len ck))∧(wrD f).s.len≤maxLen∧Below w.heap.size w w' ∧ Since w0 w.heap.size w' none (fun W=>RS W rk (wrD f).s)
theorem WH.fins {w0 w wr W5:World} {f:Frm} {nv kv dv:Value} {rk:Option Addr} {s:Fo} (h:WH w wr f nv kv dv) (hS:Since w0 (w.heap.size+2) wr none (fun W=>RS W rk s)) (o5:∀g,g≠w.heap.size+1→W5.heap[g]?=wr.heap[g]?) (hb5:ButB w.heap.size (w.heap.size+1) wr W5):Below w.heap.size w W5∧Since w0 w.heap.size W5 none (fun W=>RS W rk s) :=
 ⟨h.b.trans ⟨hb5.os,hb5.tape,hb5.output,by have:=hb5.size;omega,fun g hg=>o5 g (by omega)⟩,(hS.step hb5.size fun g h1 _ _=>o5 g (by omega)).mono (by omega)⟩
open Go.RowKit Go.Maps Go.ChangeMaps
theorem rwritten_sym (f:Frm) (hk:f.kind=2):RWr f:=by
 intro w0 nr kr dr nc kc dc w hR hB
 have HM:Hid (wrD f=symD f.text):=by show _=_;unfold wrD wr1;rw [if_pos hk]
 have HH:Hid (WH w ((w.alloc (Z9 f (.slice nr f.names.length nc) (.slice kr f.kids.len kc) (.slice dr f.dat.s.len dc))).alloc Z5) f (.slice nr f.names.length nc) (.slice kr f.kids.len kc) (.slice dr f.dat.s.len dc)):=WH.new _ _ _ _ _
 have b2:(f.kind == 2)=true:=by simp [hk]
 have b1:(f.kind == 1)=false:=by simp [hk]
 rw [HM.out]
 clear hk hR hB
 go_enter Tryz.func76,Tryz.ntmps76
 go_upto_region 1 with fail
 generalize (w.alloc (Z9 f (.slice nr f.names.length nc) (.slice kr f.kids.len kc) (.slice dr f.dat.s.len dc))).alloc Z5=W1 at *
 obtain ⟨⟨z0,z1,z2,z3,z4,z5,z6,z7,z8⟩,_⟩:=cells9 HH.out.q0
 go_wp2_with fail
 refine (rsym_any f.text W1).mono ?_
 rintro e w2 ⟨rfl,hb2⟩
 have HH2:Hid (WH w w2 f (.slice nr f.names.length nc) (.slice kr f.kids.len kc) (.slice dr f.dat.s.len dc)):=HH.out.step (hb2.mono HH.out.lt)
 obtain ⟨c0,c1,c2,c3,c4,cf⟩:=cells5 HH2.out.q1
 have g0:=cf 0
 have g1:=cf 1
 have g2:=cf 2
 have g3:=cf 3
 have g4:=cf 4
 clear hb2 cf z0 z1 z2 z3 z4 z5 z6 z7 z8
 go_wp2_with fail
 refine bodyPost_five (s:=2) rfl rfl rfl HH2.out.q1 fun W5 o5 b5=>?_
 have hf:=HH2.out.fins (w0:=w0) (rk:=none) (s := .nil) (fun _ _ _=>rs_nil _ _) o5 (b5 (w.heap.size) (w.heap.size+1) (by omega))
 exact ⟨none,0,rfl,Nat.zero_le _,hf.1,hf.2⟩
theorem rwritten_self (f:Frm) (hF:FOk f) (hk:f.kind=1) (hi:itselfB f.dat.k=true):RWr f:=by
 intro w0 nr kr dr nc kc dc w hR hB
 have HM:Hid (wrD f=f.dat):=by show _=_;unfold wrD wr1;rw [if_neg (by omega),if_pos ⟨hk,hi⟩]
 have HH:Hid (WH w ((w.alloc (Z9 f (.slice nr f.names.length nc) (.slice kr f.kids.len kc) (.slice dr f.dat.s.len dc))).alloc Z5) f (.slice nr f.names.length nc) (.slice kr f.kids.len kc) (.slice dr f.dat.s.len dc)):=WH.new _ _ _ _ _
 have b2:(f.kind == 2)=false:=by simp [hk]
 have b1:(f.kind == 1)=true:=by simp [hk]
 have HRD:Hid (RS w0 dr f.dat.s):=hR.d
 have HL:Hid (f.dat.s.len≤maxLen):=by
  show _≤_
  have:=Fo.len_size f.dat.s
  have:=hF.d.size
  unfold maxLen;omega
 unfold itselfB at hi
 have d2:(f.dat.k == 2)=false:=by
  cases h:f.dat.k == 2
  ·rfl
  ·have:f.dat.k=2:=by simpa using h
   rw [this] at hi;cases hi
 have d5:(f.dat.k == 5)=false:=by
  cases h:f.dat.k == 5
  ·rfl
  ·have:f.dat.k=5:=by simpa using h
   rw [this] at hi;cases hi
 rw [HM.out]
 clear hk hR hF hi hB
 go_enter Tryz.func76,Tryz.ntmps76
 go_upto_region 1 with fail
 generalize (w.alloc (Z9 f (.slice nr f.names.length nc) (.slice kr f.kids.len kc) (.slice dr f.dat.s.len dc))).alloc Z5=W1 at *
 obtain ⟨⟨z0,z1,z2,z3,z4,z5,z6,z7,z8⟩,_⟩:=cells9 HH.out.q0
 obtain ⟨c0,c1,c2,c3,c4,cf⟩:=cells5 HH.out.q1
 have g0:=cf 0
 have g1:=cf 1
 have g2:=cf 2
 have g3:=cf 3
 have g4:=cf 4
 clear cf
 go_wp2_with fail
 refine bodyPost_five (s:=2) rfl rfl rfl HH.out.q1 fun W5 o5 b5=>?_
 have hf:=HH.out.fins (since_home HRD.out) o5 (b5 (w.heap.size) (w.heap.size+1) (by omega))
 exact ⟨dr,dc,rfl,HL.out,hf.1,hf.2⟩
def quoT:List UInt8:=[113,117,111,116,101]
theorem rwritten_quote (f:Frm) (hF:FOk f) (hk:f.kind=1) (hks:f.kids = .nil) (hi:f.dat.k=2∨f.dat.k=5):RWr f:=by
 intro w0 nr kr dr nc kc dc w hR hB
 have HM:Hid (wrD f=listD ((symD quoT).fo (f.dat.fo .nil))):=by
  show _=_;unfold wrD wr1;rw [if_neg (by omega),if_neg (by rintro ⟨_,h⟩;rcases hi with e|e<;>(rw [e] at h;cases h))]
  have hv:valsN f=0:=by unfold valsN;rw [if_neg (by omega)]
  rw [hv]
  unfold aheadF
  rw [if_pos hk,hk,hks]
  rfl
 have HH:Hid (WH w ((w.alloc (Z9 f (.slice nr f.names.length nc) (.slice kr f.kids.len kc) (.slice dr f.dat.s.len dc))).alloc Z5) f (.slice nr f.names.length nc) (.slice kr f.kids.len kc) (.slice dr f.dat.s.len dc)):=WH.new _ _ _ _ _
 have b2:(f.kind == 2)=false:=by simp [hk]
 have b1:(f.kind == 1)=true:=by simp [hk]
 have HRD:Hid (RS w0 dr f.dat.s):=hR.d
 have HL:Hid (f.dat.s.len≤maxLen):=by
  show _≤_
  have:=Fo.len_size f.dat.s
  have:=hF.d.size
  unfold maxLen;omega
 obtain ⟨q,h2,h5⟩:∃q,(f.dat.k == 2)=q∧(f.dat.k == 5) = !q:=by
  rcases hi with h|h
  ·exact ⟨true,by rw [h];rfl,by rw [h];rfl⟩
  ·exact ⟨false,by rw [h];rfl,by rw [h];rfl⟩
 rw [HM.out]
 clear hk hR hF hi hB hks
 go_enter Tryz.func76,Tryz.ntmps76
 go_upto_region 1 with fail
 generalize (w.alloc (Z9 f (.slice nr f.names.length nc) (.slice kr f.kids.len kc) (.slice dr f.dat.s.len dc))).alloc Z5=W1 at *
 obtain ⟨zz,_⟩:=cells9 HH.out.q0
 have szz:w.heap.size+1<W1.heap.size:=HH.out.lt
 obtain ⟨z0,z1,z2,z3,z4,z5,z6,z7,z8⟩:=zz
 have hmx:Tryz.prog.follows .mixedOrders=true:=by kernel_rfl
 have mk:∀wx,Below W1.heap.size W1 wx→(wx.cell? ⟨w.heap.size,4,none⟩=some (.int .u8 f.dat.k)∧wx.cell? ⟨w.heap.size,5,none⟩=some (.int .i64 f.dat.n)∧wx.cell? ⟨w.heap.size,6,none⟩=some (S f.dat.t)∧wx.cell? ⟨w.heap.size,7,none⟩=some (.slice dr f.dat.s.len dc)∧wx.cell? ⟨w.heap.size,8,none⟩=some (.bool f.dat.d)):=fun wx hb=>⟨below_cells hb _ _ z4,below_cells hb _ _ z5,below_cells hb _ _ z6,below_cells hb _ _ z7,below_cells hb _ _ z8⟩
 cases q
 all_goals
  go_upto_region 4 with fail
  first
  | go_region_held3 (fun wx=>(wx.cell? ⟨w.heap.size,4,none⟩=some (.int .u8 f.dat.k)∧wx.cell? ⟨w.heap.size,5,none⟩=some (.int .i64 f.dat.n)∧wx.cell? ⟨w.heap.size,6,none⟩=some (S f.dat.t)∧wx.cell? ⟨w.heap.size,7,none⟩=some (.slice dr f.dat.s.len dc)∧wx.cell? ⟨w.heap.size,8,none⟩=some (.bool f.dat.d)))
    (first|(go_keep;done)|exact mk _ (hbL.alloc hbL.size _)|exact mk _ hbL|exact mk _ (hbS.alloc hbS.size _)|exact mk _ hbS)
    (first
     | (go_at_call 115;refine (rsym_any quoT _).mono ?_;rintro e wS ⟨rfl,hxS⟩;have hbS:Below W1.heap.size W1 wS:=(Below.refl _ W1).drew.trans hxS)
     | (go_at_call 118;refine (rlist_any _ 2 2 _).mono ?_;rintro e wL ⟨rfl,hxL⟩;have hbL:Below W1.heap.size W1 wL:=(hbS.alloc hbS.size _).trans (hxL.mono (by rw [World.size_alloc];have:=hbS.size;omega));obtain ⟨y0,y1,y2,y3,y4,yf⟩:=cells5 ((hbL.block (w.heap.size+1) szz).trans HH.out.q1);have f0:=yf 0;have f1:=yf 1;have f2:=yf 2;have f3:=yf 3;have f4:=yf 4))
  | fail
  have HH2:Hid (WH w wL f (.slice nr f.names.length nc) (.slice kr f.kids.len kc) (.slice dr f.dat.s.len dc)):=HH.out.step (hbL.mono HH.out.lt)
  have hL1:=(lrow_lit2 (w0:=w0) (m:=w.heap.size+2) (k1:=2) (n1:=0) (t1:=quoT) (d1:=false) (r1:=none) (c1:=0) (k2:=f.dat.k) (n2:=f.dat.n) (t2:=f.dat.t) (d2:=f.dat.d) (c2:=dc) (W:=wS) (by have:=hbS.size;have:=HH.out.lt;omega) (Nat.zero_le _) HL.out (fun _ _ _=>rs_nil _ _) (since_home HRD.out):LRow w0 _ _ _ _)
  have hL2:=hL1.below hxL
  obtain ⟨ra,cc,hv,hlen,hS⟩:=hL2.fin
  cases hv
  have HS:Hid (Since w0 (w.heap.size+2) wL none (fun W=>RS W (some ⟨wS.heap.size,0,none⟩) (.cons 2 0 quoT .nil false (f.dat.fo .nil)))):=hS
  have HLen:Hid (Fo.len (.cons 2 0 quoT .nil false (f.dat.fo .nil))≤maxLen):=hlen
  clear hS hL1 hL2 hbL hbS hxL hxS mk z0 z1 z2 z3 z4 z5 z6 z7 z8 hlen
  go_wp2_with fail
  refine bodyPost_five (s:=2) rfl rfl rfl HH2.out.q1 fun W5 o5 b5=>?_
  have hf:=HH2.out.fins HS.out o5 (b5 (w.heap.size) (w.heap.size+1) (by omega))
  exact ⟨_,_,rfl,HLen.out,hf.1,hf.2⟩
theorem shp_nil:∀m:Fin 16,3≤m.1→((shpOf m.1).1=[]↔m.1=10):=by decide
theorem keepG {w w' : World} {base e size n m gb cap:Nat} {v:Value} {xs news:List Value} (G:Grew w w' base e size v n m xs news gb cap) {a b c q:Nat} {u0 u1 v0 v1 v2 v3 v4:Value} {o:Nat}
  (h:(w.cell? ⟨a,2,none⟩=some u0∧w.cell? ⟨b,o,none⟩=some u1)∧(w.cell? ⟨c,0,none⟩=some v0∧w.cell? ⟨c,1,none⟩=some v1∧w.cell? ⟨c,2,none⟩=some v2∧w.cell? ⟨c,3,none⟩=some v3∧w.cell? ⟨c,4,none⟩=some v4))
  (hb:b<base) (ha:a+2≤base) (hv:∀g,v.ownBlock=some g→g<q) (hq:q≤c) :
  (w'.cell? ⟨a,2,none⟩=some u0∧w'.cell? ⟨b,o,none⟩=some u1)∧(w'.cell? ⟨c,0,none⟩=some v0∧w'.cell? ⟨c,1,none⟩=some v1∧w'.cell? ⟨c,2,none⟩=some v2∧w'.cell? ⟨c,3,none⟩=some v3∧w'.cell? ⟨c,4,none⟩=some v4):=by
 have hx:∀(p:Addr) (u:Value),w.cell? p=some u→p.block=c→w'.cell? p=some u:=fun p u h hp=>by
  have hl:=World.block_lt_of_cell? w p h
  have hbk:=G.grown.block p.block hl (fun e0=>by have:=hv p.block e0.symm;omega)
  simp only [World.cell?] at h ⊢
  rw [hbk];exact h
 obtain ⟨⟨h0,h1⟩,h2,h3,h4,h5,h6⟩:=h
 exact ⟨⟨grew_cells G h0 (by dsimp only;omega),grew_cells G h1 hb⟩,hx _ _ h2 rfl,hx _ _ h3 rfl,hx _ _ h4 rfl,hx _ _ h5 rfl,hx _ _ h6 rfl⟩
theorem symsF_snoc (s:List UInt8):∀l:List (List UInt8),symsF (l++[s])=(symsF l).app ((symD s).fo .nil)
 | []=>rfl
 | _::r=>by simp only [List.cons_append,symsF,symsF_snoc s r,Fo.app]
theorem rwritten_list (m:Nat) (t:List UInt8) (ns:List (List UInt8)) (ks:Fm) (d:Dt) (hF:FOk ⟨(m:Int),t,ns,ks,d⟩) (hm0:3≤m) (hm1:m<16) (hv:m=8→ns.length≤ks.len) (hall:EachF RWr ks):RWr ⟨(m:Int),t,ns,ks,d⟩:=by
 intro w0 nr kr dr nc kc dc w hR hB0
 change Calls Tryz.prog 76 #[frmV ⟨(m:Int),t,ns,ks,d⟩ (.slice nr ns.length nc) (.slice kr ks.len kc) (.slice dr d.s.len dc)] w _
 obtain ⟨W0,hW0⟩:∃W0,wordF (m:Int)=W0:=⟨_,rfl⟩
 obtain ⟨A0,hA0⟩:∃A0,aheadF ⟨(m:Int),t,ns,ks,d⟩ (zipB ns (wrF ks))=A0:=⟨_,rfl⟩
 obtain ⟨vn,hvn⟩:∃vn,valsN ⟨(m:Int),t,ns,ks,d⟩=vn:=⟨_,rfl⟩
 have HM:Hid (wrD ⟨(m:Int),t,ns,ks,d⟩=listD ((W0.app A0).app ((wrF ks).drop vn))):=by
  show _=_
  rw [←hW0, ←hA0, ←hvn]
  unfold wrD wr1
  rw [if_neg (show ¬ ((m:Int)=2) by omega),if_neg (show ¬ ((m:Int)=1∧itselfB d.k=true) by rintro ⟨h1,_⟩;omega)]
 have HVN:Hid (vn=if m=8 then ns.length else 0):=by
  show _=_
  rw [←hvn]
  unfold valsN
  by_cases h8:m=8
  ·rw [if_pos (show ((m:Int)=8) by omega),if_pos h8]
  ·rw [if_neg (show ¬ ((m:Int)=8) by omega),if_neg h8]
 have HV:Hid (vn≤ks.len):=by
  show _≤_
  rw [HVN.out]
  split
  ·exact hv (by assumption)
  ·exact Nat.zero_le _
 have HA:Hid (A0=if m=5∨m=6 then (symD t).fo .nil else if m=4 then (listD (symsF ns)).fo .nil else if m=8 then (listD (zipB ns (wrF ks))).fo .nil else .nil):=by
  show _=_
  rw [←hA0]
  unfold aheadF
  rw [if_neg (show ¬ ((m:Int)=1) by omega)]
  by_cases h5:m=5∨m=6
  ·rw [if_pos (show ((m:Int)=5∨(m:Int)=6) by omega),if_pos h5]
  rw [if_neg (show ¬ ((m:Int)=5∨(m:Int)=6) by omega),if_neg h5]
  by_cases h4:m=4
  ·rw [if_pos (show ((m:Int)=4) by omega),if_pos h4]
  rw [if_neg (show ¬ ((m:Int)=4) by omega),if_neg h4]
  by_cases h8:m=8
  ·rw [if_pos (show ((m:Int)=8) by omega),if_pos h8]
  ·rw [if_neg (show ¬ ((m:Int)=8) by omega),if_neg h8]
 have HWD:Hid (W0=if m=10 then .nil else (symD (shpOf m).1).fo .nil):=by
  show _=_
  rw [←hW0]
  unfold wordF
  have:=shp_nil ⟨m,hm1⟩ hm0
  dsimp only at this
  rw [Int.toNat_natCast]
  by_cases h:m=10
  ·rw [if_pos (this.2 h),if_pos h]
  ·rw [if_neg (fun e=>h (this.1 e)),if_neg h]
 have HW0l:Hid (W0.len≤1):=by
  show _≤_
  rw [HWD.out]
  split
  ·exact Nat.zero_le _
  ·exact Nat.le_refl _
 have HAL:Hid (A0.len≤1):=by show _≤_;rw [←hA0];exact ahead_len _ _
 have HH:Hid (WH w ((w.alloc (Z9 ⟨(m:Int),t,ns,ks,d⟩ (.slice nr ns.length nc) (.slice kr ks.len kc) (.slice dr d.s.len dc))).alloc Z5) ⟨(m:Int),t,ns,ks,d⟩ (.slice nr ns.length nc) (.slice kr ks.len kc) (.slice dr d.s.len dc)):=WH.new _ _ _ _ _
 have b2:((m:Int) == 2)=false:=by simpa using show ¬ (m:Int)=2 by omega
 have b1:((m:Int) == 1)=false:=by simpa using show ¬ (m:Int)=1 by omega
 have HRN:Hid (RN w0 nr ns):=hR.n
 have HRK:Hid (RSF w0 kr ks):=hR.k
 have HBW:Hid (Below w0.heap.size w0 w):=hB0
 have HKL:Hid (ks.len≤1000000):=hF.kl
 have HNL:Hid (ns.length≤1000000):=hF.nl
 have HAll:Hid (EachF RWr ks):=hall
 clear hR hB0 hall hF hv hW0 hA0 hvn
 go_enter Tryz.func76,Tryz.ntmps76
 go_upto_region 1 with fail
 generalize (w.alloc (Z9 ⟨(m:Int),t,ns,ks,d⟩ (.slice nr ns.length nc) (.slice kr ks.len kc) (.slice dr d.s.len dc))).alloc Z5=W1 at *
 obtain ⟨⟨z0,z1,z2,z3,z4,z5,z6,z7,z8⟩,_⟩:=cells9 HH.out.q0
 go_upto_if 40 with fail
 clear b1 b2
 go_cut [3] (fun nv wx=>∃(ra:Option Addr) (c:Nat),nv = .slice ra W0.len c∧Hid (LRow w0 (w.heap.size+2) wx (.slice ra W0.len c) W0)∧Hid (WH w wx ⟨(m:Int),t,ns,ks,d⟩ (.slice nr ns.length nc) (.slice kr ks.len kc) (.slice dr d.s.len dc)))
 case first =>
  by_cases h10:m=10
  ·have b10:((m:Int) != 10)=false:=by simp [h10]
   have HWE:Hid (W0 = .nil):=by show _=_;rw [HWD.out,if_pos h10]
   clear h10
   go_wp2_with fail
   go_meet
   rw [HWE.out]
   exact ⟨none,0,rfl,LRow.nil _ _ _,HH⟩
  ·have b10:((m:Int) != 10)=true:=by simpa using show ¬ (m:Int)=10 by omega
   have HWE:Hid (W0=(symD (shpOf m).1).fo .nil):=by show _=_;rw [HWD.out,if_neg h10]
   have HWC:Hid (Calls Tryz.prog 119 #[.int .u8 m] W1 fun e w' => e = .returned (S (shpOf m).1)∧w' = W1):=by
    have:=rword_any (m:Int) W1 (by omega) (by omega) (by omega)
    rwa [Int.toNat_natCast] at this
   clear h10
   go_wp2_with fail
   refine HWC.out.mono ?_
   rintro e w2 ⟨rfl,rfl⟩
   go_wp2_with fail
   refine (rsym_any (shpOf m).1 w2).mono ?_
   rintro e w3 ⟨rfl,hb3⟩
   have HH3:Hid (WH w w3 ⟨(m:Int),t,ns,ks,d⟩ (.slice nr ns.length nc) (.slice kr ks.len kc) (.slice dr d.s.len dc)):=HH.out.step (hb3.mono HH.out.lt)
   have hl3:=HH3.out.lt
   clear hb3 z0 z1 z2 z3 z4 z5 z6 z7 z8 HWC
   go_wp2_with (at_builtin;refine stop_of ?_)
   unfold Hid
   refine wpList_append_lrow rfl _ _ rfl w0 w3 (w.heap.size+2) 0 .nil (.slice none 0 0) rfl (LRow.nil _ _ _) rfl hl3 (by omega) 2 0 (shpOf m).1 .nil false none 0 0 rfl (Nat.zero_le _) (fun _ _ _=>rs_nil _ _) _ rfl rfl ?_
   intro gb cap w6 hL6 hb6
   have HL6:Hid (LRow w0 (w.heap.size+2) w6 (.slice (some ⟨gb,0,none⟩) W0.len cap) W0):=by
    rw [HWE.out];exact hL6
   have HH6:Hid (WH w w6 ⟨(m:Int),t,ns,ks,d⟩ (.slice nr ns.length nc) (.slice kr ks.len kc) (.slice dr d.s.len dc)):=HH3.out.step hb6
   have HLN:Hid (W0.len=0+1):=by show _=_;rw [HWE.out];rfl
   clear hL6 hb6
   go_wp2_with fail
   go_meet
   exact ⟨some ⟨gb,0,none⟩,cap,by rw [HLN.out],HL6,HH6⟩
 case rest =>
  obtain ⟨ra3,c3,rfl,HL3,HH3⟩:=hcut
  clear z0 z1 z2 z3 z4 z5 z6 z7 z8 HWD HH
  obtain ⟨⟨z0,z1,z2,z3,z4,z5,z6,z7,z8⟩,_⟩:=cells9 HH3.out.q0
  have hwl:=HW0l.out
  have hl3:=HH3.out.lt
  go_upto_block 1 with fail
  go_cut [3,4] (fun nv fv wx=>fv = .int .i64 (vn:Nat)∧∃(ra:Option Addr) (c:Nat),nv = .slice ra (W0.len+A0.len) c∧Hid (LRow w0 (w.heap.size+2) wx (.slice ra (W0.len+A0.len) c) (W0.app A0))∧Hid (WH w wx ⟨(m:Int),t,ns,ks,d⟩ (.slice nr ns.length nc) (.slice kr ks.len kc) (.slice dr d.s.len dc)))
  case first =>
   by_cases h56:m=5∨m=6
   ·have HAE:Hid (A0=(symD t).fo .nil):=by show _=_;rw [HA.out,if_pos h56]
    have HV0:Hid (vn=0):=by show _=_;rw [HVN.out,if_neg (by omega)]
    rcases h56 with rfl|rfl
    all_goals
     go_wp2_with fail
     refine (rsym_any t wc).mono ?_
     rintro e w4 ⟨rfl,hb4⟩
     have HL4:Hid (LRow w0 (w.heap.size+2) w4 (.slice ra3 W0.len c3) W0):=HL3.out.below hb4
     have HH4:Hid (WH w w4 _ (.slice nr ns.length nc) (.slice kr ks.len kc) (.slice dr d.s.len dc)):=HH3.out.step (hb4.mono hl3)
     have hl4:=HH4.out.lt
     clear hb4 z0 z1 z2 z3 z4 z5 z6 z7 z8
     go_wp2_with (at_builtin;refine stop_of ?_)
     unfold Hid
     refine wpList_append_lrow rfl _ _ rfl w0 w4 (w.heap.size+2) W0.len W0 (.slice ra3 W0.len c3) rfl HL4.out rfl hl4 (by omega) 2 0 t .nil false none 0 0 rfl (Nat.zero_le _) (fun _ _ _=>rs_nil _ _) _ rfl rfl ?_
     intro gb cap w6 hL6 hb6
     have HLN:Hid (A0.len=1):=by show _=_;rw [HAE.out];rfl
     have HL6:Hid (LRow w0 (w.heap.size+2) w6 (.slice (some ⟨gb,0,none⟩) (W0.len+A0.len) cap) (W0.app A0)):=by
      rw [HLN.out,HAE.out];exact hL6
     have HH6:Hid (WH w w6 _ (.slice nr ns.length nc) (.slice kr ks.len kc) (.slice dr d.s.len dc)):=HH4.out.step hb6
     clear hL6 hb6
     go_wp2_with fail
     go_meet
     exact ⟨by rw [HV0.out];rfl,some ⟨gb,0,none⟩,cap,by rw [HLN.out],HL6,HH6⟩
   by_cases h4:m=4
   ·have HAE:Hid (A0=(listD (symsF ns)).fo .nil):=by show _=_;rw [HA.out,if_neg h56,if_pos h4]
    have HV0:Hid (vn=0):=by show _=_;rw [HVN.out,if_neg (by omega)]
    subst h4
    obtain ⟨nb,no,hnz,hNd⟩:=HRN.out
    have Hnr:Hid (ns≠[]→nr=some ⟨nb,no,none⟩):=fun h=>hnz.resolve_left h
    have HNd:Hid (∀(j:Nat) (s:List UInt8),ns[j]?=some s→w0.cell? ⟨nb,no+j,none⟩=some (S s)):=hNd
    clear hnz hNd h56
    go_upto_region 19 with fail
    go_loopw [5,6] (fun nv i wr=>∃(j:Nat) (q r:List (List UInt8)) (ra:Option Addr) (c:Nat),i = .int .i64 j∧nv = .slice ra j c∧r.length+j=ns.length∧Hid (ns=q++r)∧Hid (q.length=j)∧Hid (LRow w0 wc.heap.size wr (.slice ra j c) (symsF q))∧Hid (Below wc.heap.size wc wr)) (fun _ i _=>ns.length-(intOf i).toNat)
    case atStart=>exact ⟨0,[],ns,none,0,rfl,rfl,by simp,rfl,rfl,LRow.nil _ _ _,Below.refl _ _⟩
    case round =>
     obtain ⟨j,q,r,ra,c,rfl,rfl,hj,HQ,HL,HLr,HBr⟩:=hrel
     have HHr:Hid (WH w wr _ (.slice nr ns.length nc) (.slice kr ks.len kc) (.slice dr d.s.len dc)):=HH3.out.step (HBr.out.mono hl3)
     clear z0 z1 z2 z3 z4 z5 z6 z7 z8
     obtain ⟨⟨z0,z1,z2,z3,z4,z5,z6,z7,z8⟩,_⟩:=cells9 HHr.out.q0
     have hws:=HBr.out.size
     have hnl:=HNL.out
     cases r with
     | nil =>
      have hj' : j=ns.length:=by simpa using hj
      have i1:¬ ((j:Int)<(ns.length:Int)):=by omega
      have hq:q=ns:=by have:=HQ.out;rw [List.append_nil] at this;exact this.symm
      have Hq:Hid _:=hq
      have HJ:Hid (j≤1000000):=by show _≤_;omega
      clear hj hj' hq
      go_wp2_with fail
      refine (rlist_any ra j c wr).mono ?_
      rintro e w5 ⟨rfl,hb5⟩
      have HL5:Hid (LRow w0 (w.heap.size+2) w5 (.slice ra3 W0.len c3) W0):=(HL3.out.kept hws fun g _ hg=>HBr.out.block g hg).below hb5
      have HH5:Hid (WH w w5 _ (.slice nr ns.length nc) (.slice kr ks.len kc) (.slice dr d.s.len dc)):=HHr.out.step (hb5.mono HHr.out.lt)
      have hl5:=HH5.out.lt
      obtain ⟨ra', c', hv', hlm,hSn⟩:=HLr.out.fin
      obtain ⟨e1,e2,e3⟩:=Value.slice.inj hv'
      clear e2
      subst e1 e3
      clear hv'
      have HSn:Hid (Since w0 (w.heap.size+2) w5 (Value.slice ra3 W0.len c3).ownBlock (fun W=>RS W ra (symsF q))):=(hSn.below hb5).but hl3 (fun g e=>(HL3.out.lt g e).2)
      have HSl:Hid ((symsF q).len=j):=by show _=_;rw [symsF_len,HL.out]
      have HLN:Hid (A0.len=1):=by show _=_;rw [HAE.out];rfl
      have hjm:j≤maxLen:=by have:=HJ.out;unfold maxLen;omega
      clear hb5 hSn hlm z0 z1 z2 z3 z4 z5 z6 z7 z8
      go_wp2_with (at_builtin;refine stop_of ?_)
      unfold Hid
      refine wpList_append_lrow rfl _ _ rfl w0 w5 (w.heap.size+2) W0.len W0 (.slice ra3 W0.len c3) rfl HL5.out rfl hl5 (by omega) 5 0 [] (symsF q) false ra c j HSl.out hjm HSn.out _ rfl rfl ?_
      intro gb cap w6 hL6 hb6
      have HL6:Hid (LRow w0 (w.heap.size+2) w6 (.slice (some ⟨gb,0,none⟩) (W0.len+A0.len) cap) (W0.app A0)):=by
       rw [HLN.out,HAE.out, ←Hq.out];exact hL6
      have HH6:Hid (WH w w6 _ (.slice nr ns.length nc) (.slice kr ks.len kc) (.slice dr d.s.len dc)):=HH5.out.step hb6
      clear hL6 hb6
      go_wp2_with fail
      go_meet
      exact ⟨by rw [HV0.out];rfl,some ⟨gb,0,none⟩,cap,by rw [HLN.out],HL6,HH6⟩
     | cons s r =>
      simp only [List.length_cons] at hj
      have i1:(j:Int)<(ns.length:Int):=by omega
      have hat:ns[j]?=some s:=by rw [HQ.out,List.getElem?_append_right (Nat.le_of_eq HL.out),HL.out,Nat.sub_self];rfl
      have hnr:=Hnr.out (fun e=>by rw [e] at hat;cases hat)
      subst hnr
      have e0:=below_cells ((HBW.out.trans (HH3.out.b.mono HBW.out.size)).trans (HBr.out.mono (by have:=HBW.out.size;omega))) _ _ (HNd.out j s hat)
      clear hat
      go_wp2_with fail
      refine (rsym_any s wr).mono ?_
      rintro e w4 ⟨rfl,hb4⟩
      have HL4:Hid (LRow w0 wc.heap.size w4 (.slice ra j c) (symsF q)):=HLr.out.below hb4
      have HB4:Hid (Below wc.heap.size wc w4):=HBr.out.trans (hb4.mono hws)
      have hw4:=HB4.out.size
      have HSl:Hid ((symsF q).len=j):=by show _=_;rw [symsF_len,HL.out]
      clear hb4 e0 z0 z1 z2 z3 z4 z5 z6 z7 z8
      go_wp2_with (at_builtin;refine stop_of ?_)
      unfold Hid
      refine wpList_append_lrow rfl _ _ rfl w0 w4 wc.heap.size j (symsF q) (.slice ra j c) rfl HL4.out HSl.out hw4 (by omega) 2 0 s .nil false none 0 0 rfl (Nat.zero_le _) (fun _ _ _=>rs_nil _ _) _ rfl rfl ?_
      intro gb cap w6 hL6 hb6
      have HL6:Hid (LRow w0 wc.heap.size w6 (.slice (some ⟨gb,0,none⟩) (j+1) cap) (symsF (q++[s]))):=by
       rw [symsF_snoc];exact hL6
      have HB6:Hid (Below wc.heap.size wc w6):=HB4.out.trans hb6
      clear hL6 hb6
      go_wp2_with fail
      go_roundw
      case rel=>exact ⟨j+1,q++[s],r,some ⟨gb,0,none⟩,cap,by go_num,rfl,by omega,by show _=_;rw [HQ.out];simp,by show _=_;rw [List.length_append,HL.out];rfl,HL6,HB6⟩
      case measure=>simp [intOf];omega
   by_cases h8:m=8
   ·have HAE:Hid (A0=(listD (zipB ns (wrF ks))).fo .nil):=by show _=_;rw [HA.out,if_neg h56,if_neg h4,if_pos h8]
    have HV0:Hid (vn=ns.length):=by show _=_;rw [HVN.out,if_pos h8]
    subst h8
    obtain ⟨nb,no,hnz,hNd⟩:=HRN.out
    have Hnr:Hid (ns≠[]→nr=some ⟨nb,no,none⟩):=fun h=>hnz.resolve_left h
    have HNd:Hid (∀(j:Nat) (s:List UInt8),ns[j]?=some s→w0.cell? ⟨nb,no+j,none⟩=some (S s)):=hNd
    obtain ⟨kb,ko,hkz,hKd⟩:=HRK.out
    have Hkr:Hid (ks.len≠0→kr=some ⟨kb,ko,none⟩):=fun h=>hkz.resolve_left h
    have HKd:Hid (RdF w0 ks kb ko):=hKd
    have hnk:ns.length≤ks.len:=by have:=HV.out;rw [HV0.out] at this;exact this
    have hmx:Tryz.prog.follows .mixedOrders=true:=by kernel_rfl
    obtain ⟨i0,hi0,hz0,hz1,hz2⟩:=info_parts infoDat
    clear hnz hNd h56 h4 hkz hKd
    go_upto_region 26 with fail
    go_loopw [7,8] (fun nv i wr=>∃(j:Nat) (q r:List (List UInt8)) (p g:Fm) (ra:Option Addr) (c:Nat),i = .int .i64 j∧nv = .slice ra j c∧r.length+j=ns.length∧g.len+j=ks.len∧Hid (ns=q++r)∧Hid (q.length=j)∧Hid (ks=p.app g)∧Hid (p.len=j)∧Hid (RdF w0 g kb (ko+j*9))∧Hid (EachF RWr g)∧Hid (LRow w0 wc.heap.size wr (.slice ra j c) (zipB q (wrF p)))∧Hid ((zipB q (wrF p)).len=j)∧Hid (Below wc.heap.size wc wr)) (fun _ i _=>ns.length-(intOf i).toNat)
    case atStart=>exact ⟨0,[],ns, .nil,ks,none,0,rfl,rfl,by simp,by simp,rfl,rfl,rfl,rfl,by simpa using HKd,HAll,LRow.nil _ _ _,rfl,Below.refl _ _⟩
    case round =>
     obtain ⟨j,q,r,p,g,ra,c,rfl,rfl,hj,hjg,HQ,HL,HP,HPL,HG,HAg,HLr,HLn,HBr⟩:=hrel
     have hhr:=HH3.out.step (HBr.out.mono hl3)
     have HHr:Hid _:=hhr
     clear z0 z1 z2 z3 z4 z5 z6 z7 z8 hhr
     obtain ⟨⟨z0,z1,z2,z3,z4,z5,z6,z7,z8⟩,_⟩:=cells9 HHr.out.q0
     have hws:=HBr.out.size
     have hnl:=HNL.out
     cases r with
     | nil =>
      have hj' : j=ns.length:=by simpa using hj
      have i1:¬ ((j:Int)<(ns.length:Int)):=by omega
      have Hq:Hid (zipB q (wrF p)=zipB ns (wrF ks)):=by
       show _=_;rw [HQ.out,List.append_nil,HP.out,wrF_app,zipB_app (q:=q) (A:=wrF p) (by rw [wrF_len,HPL.out,HL.out])]
      have HJ:Hid (j≤1000000):=by show _≤_;omega
      have HV1:Hid (vn=ns.length):=HV0
      clear hj hj' hjg hnk
      go_wp2_with fail
      refine (rlist_any ra j c wr).mono ?_
      rintro e w5 ⟨rfl,hb5⟩
      have HL5:Hid (LRow w0 (w.heap.size+2) w5 (.slice ra3 W0.len c3) W0):=(HL3.out.kept hws fun g _ hg=>HBr.out.block g hg).below hb5
      have hh5:=HHr.out.step (hb5.mono HHr.out.lt)
      have HH5:Hid _:=hh5
      have hl5:=HH5.out.lt
      obtain ⟨ra', c', hv', hlm,hSn⟩:=HLr.out.fin
      obtain ⟨e1,e2,e3⟩:=Value.slice.inj hv'
      clear e2
      subst e1 e3
      clear hv'
      have HSn:Hid (Since w0 (w.heap.size+2) w5 (Value.slice ra3 W0.len c3).ownBlock (fun W=>RS W ra (zipB q (wrF p)))):=(hSn.below hb5).but hl3 (fun g e=>(HL3.out.lt g e).2)
      have HLN:Hid (A0.len=1):=by show _=_;rw [HAE.out];rfl
      have hjm:j≤maxLen:=by have:=HJ.out;unfold maxLen;omega
      clear hb5 hSn hlm hh5 z0 z1 z2 z3 z4 z5 z6 z7 z8
      go_wp2_with (at_builtin;refine stop_of ?_)
      unfold Hid
      refine wpList_append_lrow rfl _ _ rfl w0 w5 (w.heap.size+2) W0.len W0 (.slice ra3 W0.len c3) rfl HL5.out rfl hl5 (by omega) 5 0 [] (zipB q (wrF p)) false ra c j HLn.out hjm HSn.out _ rfl rfl ?_
      intro gb cap w6 hL6 hb6
      have HL6:Hid (LRow w0 (w.heap.size+2) w6 (.slice (some ⟨gb,0,none⟩) (W0.len+A0.len) cap) (W0.app A0)):=by
       rw [HLN.out,HAE.out, ←Hq.out];exact hL6
      have hh6:=HH5.out.step hb6
      have HH6:Hid _:=hh6
      clear hL6 hb6 hh6
      obtain ⟨⟨z0,z1,z2,z3,z4,z5,z6,z7,z8⟩,_⟩:=cells9 HH6.out.q0
      go_wp2_with fail
      go_meet
      exact ⟨by rw [HV1.out],some ⟨gb,0,none⟩,cap,by rw [HLN.out],HL6,HH6⟩
     | cons s r =>
      simp only [List.length_cons] at hj
      have i1:(j:Int)<(ns.length:Int):=by omega
      have i2:(j:Int)<(ks.len:Int):=by omega
      cases g with
      | nil=>simp only [Fm.len] at hjg;omega
      | cons k2 t2 ns2 ks2 dk dn dt ds dd g =>
      simp only [Fm.len] at hjg
      have hat:ns[j]?=some s:=by rw [HQ.out,List.getElem?_append_right (Nat.le_of_eq HL.out),HL.out,Nat.sub_self];rfl
      have hnr:=Hnr.out (fun e=>by rw [e] at hat;cases hat)
      have hkr:=Hkr.out (by omega)
      subst hnr hkr
      have bel:Below w0.heap.size w0 wr:=(HBW.out.trans (HH3.out.b.mono HBW.out.size)).trans (HBr.out.mono (by have:=HBW.out.size;omega))
      have he0:=below_cells bel _ _ (HNd.out j s hat)
      obtain ⟨hb0,nr2,nc2,kr2,kc2,dr2,dc2,⟨d0,d1,d2,d3,d4,d5,d6,d7,d8⟩,hrf,hr,hkc2⟩:=rdf_cons2 HG.out
      have e0:=below_cells bel _ _ d0
      have e1:=below_cells bel _ _ d1
      have e2:=below_cells bel _ _ d2
      have e3:=below_cells bel _ _ d3
      have e4:=below_cells bel _ _ d4
      have e5:=below_cells bel _ _ d5
      have e6:=below_cells bel _ _ d6
      have e7:=below_cells bel _ _ d7
      have e8:=below_cells bel _ _ d8
      have Hr:Hid (RdF w0 g kb (ko+j*9+9)):=hr
      have HAr2:Hid (EachF RWr g):=HAg.out.2
      obtain ⟨⟨xk,xn,xt,xs,xd⟩,hX⟩:∃X,wrD ⟨k2,t2,ns2,ks2,⟨dk,dn,dt,ds,dd⟩⟩=X:=⟨_,rfl⟩
      have HWK:Hid (Calls Tryz.prog 76 #[frmV ⟨k2,t2,ns2,ks2,⟨dk,dn,dt,ds,dd⟩⟩ (.slice nr2 ns2.length nc2) (.slice kr2 ks2.len kc2) (.slice dr2 ds.len dc2)] wr fun e w' => ∃rz cz,e = .returned (.agg #[.int .u8 xk, .int .i64 xn,S xt, .slice rz xs.len cz, .bool xd])∧xs.len≤maxLen∧Below wr.heap.size wr w' ∧ Since w0 wr.heap.size w' none (fun W=>RS W rz xs)):=(HAg.out.1 w0 nr2 kr2 dr2 nc2 kc2 dc2 wr hrf bel).mono (by
       rintro e w' ⟨rz,cz,rfl,h1,h2,h3⟩
       rw [hX] at h1 h3 ⊢
       exact ⟨rz,cz,rfl,h1,h2,h3⟩)
      have HXD:Hid _:=hX
      have hnb:nb<wr.heap.size:=cell_lt he0
      have HNB:Hid (nb<wc.heap.size):=by
       show nb<_
       have h1:=cell_lt (HNd.out j s hat)
       have h2:=HBW.out.size
       omega
      clear d0 d1 d2 d3 d4 d5 d6 d7 d8 hrf hr hkc2 bel hX hb0 hat
      go_wp2_with fail
      refine HWK.out.mono ?_
      rintro e w4 ⟨rz,cz,rfl,hxl,hb4,hs4⟩
      obtain ⟨W5,hW5⟩:∃W5,w4.alloc (.cells #[.int .u8 xk, .int .i64 xn, .string ⟨xt.toArray⟩, .slice rz xs.len cz, .bool xd] 32)=W5:=⟨_,rfl⟩
      have a4:Below w4.heap.size w4 W5:=by rw [←hW5];exact (Below.refl _ w4).alloc (Nat.le_refl _) _
      have q4:W5.heap[w4.heap.size]?=some (.cells #[.int .u8 xk, .int .i64 xn,S xt, .slice rz xs.len cz, .bool xd] 32 (0,0)):=by rw [←hW5];exact World.alloc_heap_new w4 _
      have HLr5:Hid (LRow w0 wc.heap.size W5 (.slice ra j c) (zipB q (wrF p))):=(HLr.out.below hb4).below a4
      have HB5:Hid (Below wc.heap.size wc W5):=(HBr.out.trans (hb4.mono hws)).trans (a4.mono (by have:=hb4.size;omega))
      have HS5:Hid (Since w0 wr.heap.size W5 none (fun W=>RS W rz xs)):=hs4.below a4
      have hb45:Below wr.heap.size wr W5:=hb4.trans (a4.mono hb4.size)
      have z25:=below_cells hb45 _ _ z2
      have s5:=below_cells hb45 _ _ he0
      have hs45:=hb45.size
      have hw4s:w4.heap.size<W5.heap.size:=(Array.getElem?_eq_some_iff.1 q4).1
      have hr4:=hb4.size
      obtain ⟨cs,ho5,hks5⟩:=HLr5.out.ex
      rw [HLn.out] at ho5
      have Ho:Hid (W5.ownsRow wc.heap.size 32 5 (.slice ra j c) j cs):=ho5
      have Hks:Hid (Since w0 wc.heap.size W5 (Value.slice ra j c).ownBlock (fun W' => RKs W' (zipB q (wrF p)) cs)):=hks5
      have HOL:Hid (∀g,(Value.slice ra j c).ownBlock=some g→g<wr.heap.size):=fun g e=>(HLr.out.lt g e).2
      obtain ⟨x0,x1,x2,x3,x4,_⟩:=cells5 q4
      have lx:=cell_lt x0
      have HKG:Hid (∀(wL ws:World) (l0 n1 m1 gb1 cap1:Nat) (xs1 news1:List Value),Below W5.heap.size W5 wL→Grew (wL.alloc (.cells #[.int .u8 5, .int .i64 0,S [], .slice (some ⟨l0,0,none⟩) 2 2, .bool false] 32)) ws wc.heap.size 32 5 (.slice ra j c) n1 m1 xs1 news1 gb1 cap1→((ws.cell? ⟨w.heap.size,2,none⟩=some (.slice (some ⟨nb,no,none⟩) ns.length nc)∧ws.cell? ⟨nb,no+j,none⟩=some (S s))∧(ws.cell? ⟨w4.heap.size,0,none⟩=some (.int .u8 xk)∧ws.cell? ⟨w4.heap.size,1,none⟩=some (.int .i64 xn)∧ws.cell? ⟨w4.heap.size,2,none⟩=some (S xt)∧ws.cell? ⟨w4.heap.size,3,none⟩=some (.slice rz xs.len cz)∧ws.cell? ⟨w4.heap.size,4,none⟩=some (.bool xd)))):=fun wL ws l0 n1 m1 gb1 cap1 xs1 news1 hbL G1=>keepG G1 ((fun wx hb=>⟨⟨below_cells hb _ _ z25,below_cells hb _ _ s5⟩,below_cells hb _ _ x0,below_cells hb _ _ x1,below_cells hb _ _ x2,below_cells hb _ _ x3,below_cells hb _ _ x4⟩:∀wx,Below W5.heap.size W5 wx→(wx.cell? ⟨w.heap.size,2,none⟩=some (.slice (some ⟨nb,no,none⟩) ns.length nc)∧wx.cell? ⟨nb,no+j,none⟩=some (S s))∧(wx.cell? ⟨w4.heap.size,0,none⟩=some (.int .u8 xk)∧wx.cell? ⟨w4.heap.size,1,none⟩=some (.int .i64 xn)∧wx.cell? ⟨w4.heap.size,2,none⟩=some (S xt)∧wx.cell? ⟨w4.heap.size,3,none⟩=some (.slice rz xs.len cz)∧wx.cell? ⟨w4.heap.size,4,none⟩=some (.bool xd))) _ (hbL.alloc hbL.size _)) HNB.out hl3 HOL.out hr4
      clear hb4 hs4 a4 e0 e1 e2 e3 e4 e5 e6 e7 e8 z0 z1 z2 z3 z4 z5 z6 z7 z8 HWK he0 ho5 hks5
      go_upto_region 29 with fail
      clear hW5
      have mk:∀wx,Below W5.heap.size W5 wx→(wx.cell? ⟨w.heap.size,2,none⟩=some (.slice (some ⟨nb,no,none⟩) ns.length nc)∧wx.cell? ⟨nb,no+j,none⟩=some (S s))∧(wx.cell? ⟨w4.heap.size,0,none⟩=some (.int .u8 xk)∧wx.cell? ⟨w4.heap.size,1,none⟩=some (.int .i64 xn)∧wx.cell? ⟨w4.heap.size,2,none⟩=some (S xt)∧wx.cell? ⟨w4.heap.size,3,none⟩=some (.slice rz xs.len cz)∧wx.cell? ⟨w4.heap.size,4,none⟩=some (.bool xd)):=fun wx hb=>⟨⟨below_cells hb _ _ z25,below_cells hb _ _ s5⟩,below_cells hb _ _ x0,below_cells hb _ _ x1,below_cells hb _ _ x2,below_cells hb _ _ x3,below_cells hb _ _ x4⟩
      have HX5:Hid (W5.cell? ⟨w4.heap.size,0,none⟩=some (.int .u8 xk)∧W5.cell? ⟨w4.heap.size,1,none⟩=some (.int .i64 xn)∧W5.cell? ⟨w4.heap.size,2,none⟩=some (S xt)∧W5.cell? ⟨w4.heap.size,3,none⟩=some (.slice rz xs.len cz)∧W5.cell? ⟨w4.heap.size,4,none⟩=some (.bool xd)):=⟨x0,x1,x2,x3,x4⟩
      first
      | go_region_held3 (fun wx=>(wx.cell? ⟨w.heap.size,2,none⟩=some (.slice (some ⟨nb,no,none⟩) ns.length nc)∧wx.cell? ⟨nb,no+j,none⟩=some (S s))∧(wx.cell? ⟨w4.heap.size,0,none⟩=some (.int .u8 xk)∧wx.cell? ⟨w4.heap.size,1,none⟩=some (.int .i64 xn)∧wx.cell? ⟨w4.heap.size,2,none⟩=some (S xt)∧wx.cell? ⟨w4.heap.size,3,none⟩=some (.slice rz xs.len cz)∧wx.cell? ⟨w4.heap.size,4,none⟩=some (.bool xd)))
        (first|(go_keep;done)|exact mk _ (hbL.alloc hbL.size _)|exact mk _ hbL|exact mk _ (hbS.alloc hbS.size _)|exact mk _ hbS|exact hq)
        (first
         | (go_at_call 115;refine (rsym_any s _).mono ?_;rintro e wS ⟨rfl,hxS⟩;have hbS:Below W5.heap.size W5 wS:=(Below.refl _ W5).drew.trans hxS)
         | (go_at_call 118;refine (rlist_any _ 2 2 _).mono ?_;rintro e wL ⟨rfl,hxL⟩;have hbL:Below W5.heap.size W5 wL:=(hbS.alloc hbS.size _).trans (hxL.mono (by rw [World.size_alloc];have:=hbS.size;omega)))
         | (refine step_append_grew rfl _ _ 30 rfl wc.heap.size 32 i0 (.agg #[.int .u8 0, .int .i64 0, .string ⟨#[]⟩, .slice none 0 0, .bool false]) 5 64 Tryz.underlying30 hi0 hz0 hz1 hz2 rfl (by decide) (.slice ra j c) j cs rfl (World.ownsRow.alloc (own_same Ho.out (fun g hg=>hbL.block g (Ho.out.lt g hg).2)) _) ⟨_,0,none⟩ 1 1 [.int .u8 5, .int .i64 0,S [], .slice (some ⟨wS.heap.size,0,none⟩) 2 2, .bool false] rfl rfl (cell_five_at _ _ (by simp) _ _ _ _ _ _) (five_one _ _ _ _ _ _ _) (by omega) (by unfold maxLen;omega) (by omega) (by rw [World.size_alloc];have:=hbL.size;omega) ?_;intro g6 cap6 ws G1;have hq:=HKG.out _ _ _ _ _ _ _ _ _ hbL G1))
      | fail
      have hsS:=hbS.size
      have hsL:=hbL.size
      have T1:=(lrow_lit2 (w0:=w0) (m:=wr.heap.size) (k1:=2) (n1:=0) (t1:=s) (d1:=false) (r1:=none) (c1:=0) (k2:=xk) (n2:=xn) (t2:=xt) (d2:=xd) (c2:=cz) (W:=wS) (by omega) (Nat.zero_le _) hxl (fun _ _ _=>rs_nil _ _) (HS5.out.below hbS):LRow w0 _ _ _ _)
      obtain ⟨ra9,c9,hv9,_,hS9⟩:=(T1.below hxL).fin
      cases hv9
      have hS10:=(hS9.below ((Below.refl _ wL).alloc (Nat.le_refl _) (.cells #[.int .u8 5, .int .i64 0,S [], .slice (some ⟨wS.heap.size,0,none⟩) 2 2, .bool false] 32))).but hws HOL.out
      have hL6:=LRow.snoc (f:=zipB q (wrF p)) (World.ownsRow.alloc (own_same Ho.out (fun g hg=>hbL.block g (Ho.out.lt g hg).2)) _) HLn.out ((Hks.out.below hbL).below ((Below.refl _ wL).alloc (Nat.le_refl _) _)) (show Fo.len (.cons 2 0 s .nil false (.cons xk xn xt xs xd .nil))≤maxLen by show 2≤maxLen;unfold maxLen;omega) hS10 G1.own G1.grown G1.place
      have hz:zipB (q++[s]) (wrF (p.app (.cons k2 t2 ns2 ks2 dk dn dt ds dd .nil)))=(zipB q (wrF p)).app (.cons 5 0 [] (.cons 2 0 s .nil false (.cons xk xn xt xs xd .nil)) false .nil):=by
       have e1:wrF (.cons k2 t2 ns2 ks2 dk dn dt ds dd .nil) = .cons xk xn xt xs xd .nil:=by
        show (wrD ⟨k2,t2,ns2,ks2,⟨dk,dn,dt,ds,dd⟩⟩).fo .nil=_
        rw [HXD.out];rfl
       rw [wrF_app,e1,zipB_snoc s xk xn xt xs xd (q:=q) (A:=wrF p) (by rw [wrF_len,HPL.out,HL.out])]
       rfl
      have HL6:Hid (LRow w0 wc.heap.size ws (.slice (some ⟨g6,0,none⟩) (j+1) cap6) (zipB (q++[s]) (wrF (p.app (.cons k2 t2 ns2 ks2 dk dn dt ds dd .nil))))):=by
       rw [hz];exact hL6
      have HLn6:Hid ((zipB (q++[s]) (wrF (p.app (.cons k2 t2 ns2 ks2 dk dn dt ds dd .nil)))).len=j+1):=by
       show _=_
       rw [hz,Fo.len_app,HLn.out];rfl
      have HB6:Hid (Below wc.heap.size wc ws):=by
       have hoa:=World.ownsRow.alloc (own_same Ho.out (fun g hg=>hbL.block g (Ho.out.lt g hg).2)) (.cells #[.int .u8 5, .int .i64 0,S [], .slice (some ⟨wS.heap.size,0,none⟩) 2 2, .bool false] 32)
       exact ((HB5.out.trans (hbL.mono (by omega))).alloc (by omega) _).trans ((Below.refl _ _).grown G1.grown (by rw [World.size_alloc];omega) (fun k' hk=>(hoa.lt k' hk).1))
      have Hr2:Hid (RdF w0 g kb (ko+(j+1)*9)):=by have:=Hr.out;show RdF w0 g kb (ko+(j+1)*9);rw [show ko+(j+1)*9=ko+j*9+9 by omega];exact this
      clear T1 hS9 hS10 hL6 hz hq G1 hbS hbL hxS hxL mk z25 s5 x0 x1 x2 x3 x4 lx hb45 q4
      go_wp2_with fail
      go_roundw
      case rel=>exact ⟨j+1,q++[s],r,p.app (.cons k2 t2 ns2 ks2 dk dn dt ds dd .nil),g,some ⟨g6,0,none⟩,cap6,by go_num,rfl,by omega,by omega,by show _=_;rw [HQ.out];simp,by show _=_;rw [List.length_append,HL.out];rfl,by show _=_;rw [HP.out,Fm.app_assoc];rfl,by show _=_;rw [Fm.len_app,HPL.out];rfl,Hr2,HAr2,HL6,HLn6,HB6⟩
      case measure=>simp [intOf];omega
   have HAE:Hid (A0 = .nil):=by show _=_;rw [HA.out,if_neg h56,if_neg h4,if_neg h8]
   have HV0:Hid (vn=0):=by show _=_;rw [HVN.out,if_neg h8]
   have b5:((m:Int) == 5)=false:=by simpa using show ¬ (m:Int)=5 by omega
   have b6:((m:Int) == 6)=false:=by simpa using show ¬ (m:Int)=6 by omega
   have b4:((m:Int) == 4)=false:=by simpa using show ¬ (m:Int)=4 by omega
   have b8:((m:Int) == 8)=false:=by simpa using show ¬ (m:Int)=8 by omega
   clear h56 h4 h8
   go_wp2_with fail
   go_meet
   refine ⟨by rw [HV0.out];rfl,ra3,c3,by rw [HAE.out];rfl,?_,HH3⟩
   rw [HAE.out,Fo.app_nil]
   exact HL3
  case rest =>
   obtain ⟨rfl,ra5,c5,rfl,HL5,HH5⟩:=hcut
   clear z0 z1 z2 z3 z4 z5 z6 z7 z8
   obtain ⟨kb,ko,hkz,hKd⟩:=HRK.out
   obtain ⟨p0,g0,hp0,hl0,hRd0⟩:=hKd.split HV.out
   have HP0:Hid (ks=p0.app g0):=hp0
   have hks:g0.len+vn=ks.len:=by have e:=congrArg Fm.len hp0;rw [Fm.len_app,hl0] at e;omega
   have HRd0:Hid (RdF w0 g0 kb (ko+vn*9)):=hRd0
   have HA0:Hid (EachF RWr g0):=by have h:=HAll.out;rw [hp0] at h;exact h.tail
   have HD:Hid ((wrF ks).drop vn=wrF g0):=by show _=_;rw [hp0,wrF_app];exact drop_app (by rw [wrF_len,hl0])
   have Hkr:Hid (ks.len≠0→kr=some ⟨kb,ko,none⟩):=fun h0=>hkz.resolve_left h0
   have hkl:=HKL.out
   have hal:=HAL.out
   clear hkz hKd hp0 hl0 hRd0
   obtain ⟨⟨z0,z1,z2,z3,z4,z5,z6,z7,z8⟩,_⟩:=cells9 HH5.out.q0
   go_upto_region 33 with fail
   go_loopw [3,10] (fun nv i wr=>∃(x y:Nat) (p g:Fm) (ra:Option Addr) (c:Nat),i = .int .i64 x∧nv = .slice ra y c∧g.len+x=ks.len∧y+vn=W0.len+A0.len+x∧Hid (g0=p.app g)∧Hid (RdF w0 g kb (ko+x*9))∧Hid (EachF RWr g)∧Hid (LRow w0 (w.heap.size+2) wr (.slice ra y c) ((W0.app A0).app (wrF p)))∧Hid (((W0.app A0).app (wrF p)).len=y)∧Hid (WH w wr ⟨(m:Int),t,ns,ks,d⟩ (.slice nr ns.length nc) (.slice kr ks.len kc) (.slice dr d.s.len dc))) (fun _ i _=>ks.len-(intOf i).toNat)
   case atStart=>exact ⟨vn,W0.len+A0.len, .nil,g0,ra5,c5,rfl,rfl,hks,by omega,rfl,HRd0,HA0,by show LRow _ _ _ _ _;rw [show wrF .nil=Fo.nil from rfl,Fo.app_nil];exact HL5.out,by show _=_;rw [show wrF .nil=Fo.nil from rfl,Fo.app_nil,Fo.len_app],HH5⟩
   case round =>
    obtain ⟨x,y,p,g,ra,c,rfl,rfl,hx,hy,HP,HG,HAg,HLr,HLn,HHr⟩:=hrel
    clear z0 z1 z2 z3 z4 z5 z6 z7 z8
    obtain ⟨⟨z0,z1,z2,z3,z4,z5,z6,z7,z8⟩,_⟩:=cells9 HHr.out.q0
    have hlr:=HHr.out.lt
    cases g with
    | nil =>
     have hx' : x=ks.len:=by simpa [Fm.len] using hx
     have i1:¬ ((x:Int)<(ks.len:Int)):=by omega
     have Hq:Hid ((W0.app A0).app (wrF p)=(W0.app A0).app ((wrF ks).drop vn)):=by
      show _=_;rw [HD.out,HP.out,Fm.app_nil]
     have HY:Hid (y≤maxLen):=by show _≤_;unfold maxLen;omega
     clear hx hx' hy hks
     go_wp2_with fail
     refine (rlist_any ra y c wr).mono ?_
     rintro e w3 ⟨rfl,hb3⟩
     have HH3:Hid (WH w w3 ⟨(m:Int),t,ns,ks,d⟩ (.slice nr ns.length nc) (.slice kr ks.len kc) (.slice dr d.s.len dc)):=HHr.out.step (hb3.mono hlr)
     have HL3' : Hid (LRow w0 (w.heap.size+2) w3 (.slice ra y c) ((W0.app A0).app (wrF p))):=HLr.out.below hb3
     obtain ⟨ra', c', hv', hlm,hSn⟩:=HL3'.out.fin
     obtain ⟨e1,e2,e3⟩:=Value.slice.inj hv'
     clear e2
     subst e1 e3
     clear hv'
     have HSn:Hid (Since w0 (w.heap.size+2) w3 none (fun W=>RS W ra ((W0.app A0).app (wrF p)))):=hSn
     obtain ⟨y0,y1,y2,y3,y4,yf⟩:=cells5 HH3.out.q1
     have f0:=yf 0
     have f1:=yf 1
     have f2:=yf 2
     have f3:=yf 3
     have f4:=yf 4
     clear yf hb3 hlm hSn z0 z1 z2 z3 z4 z5 z6 z7 z8
     go_wp2_with fail
     refine bodyPost_five (s:=2) rfl rfl rfl HH3.out.q1 fun W5 o5 b5=>?_
     have hf:=HH3.out.fins HSn.out o5 (b5 (w.heap.size) (w.heap.size+1) (by omega))
     rw [HM.out, ←Hq.out]
     refine ⟨ra,c,?_,?_,hf.1,hf.2⟩
     ·show _=Ending.returned (datV (listD ((W0.app A0).app (wrF p))) (.slice ra ((W0.app A0).app (wrF p)).len c))
      rw [HLn.out];rfl
     ·show ((W0.app A0).app (wrF p)).len≤maxLen
      rw [HLn.out];exact HY.out
    | cons k2 t2 ns2 ks2 dk dn dt ds dd g =>
     simp only [Fm.len] at hx
     have i1:(x:Int)<(ks.len:Int):=by omega
     have hkr:=Hkr.out (by omega)
     subst hkr
     obtain ⟨hb0,nr2,nc2,kr2,kc2,dr2,dc2,⟨d0,d1,d2,d3,d4,d5,d6,d7,d8⟩,hrf,hr,hkc2⟩:=rdf_cons2 HG.out
     have bel:Below w0.heap.size w0 wr:=HBW.out.trans (HHr.out.b.mono HBW.out.size)
     have e0:=below_cells bel _ _ d0
     have e1:=below_cells bel _ _ d1
     have e2:=below_cells bel _ _ d2
     have e3:=below_cells bel _ _ d3
     have e4:=below_cells bel _ _ d4
     have e5:=below_cells bel _ _ d5
     have e6:=below_cells bel _ _ d6
     have e7:=below_cells bel _ _ d7
     have e8:=below_cells bel _ _ d8
     have Hr:Hid (RdF w0 g kb (ko+x*9+9)):=hr
     have HAr2:Hid (EachF RWr g):=HAg.out.2
     obtain ⟨⟨xk,xn,xt,xs,xd⟩,hX⟩:∃X,wrD ⟨k2,t2,ns2,ks2,⟨dk,dn,dt,ds,dd⟩⟩=X:=⟨_,rfl⟩
     have HWK:Hid (Calls Tryz.prog 76 #[frmV ⟨k2,t2,ns2,ks2,⟨dk,dn,dt,ds,dd⟩⟩ (.slice nr2 ns2.length nc2) (.slice kr2 ks2.len kc2) (.slice dr2 ds.len dc2)] wr fun e w' => ∃rz cz,e = .returned (.agg #[.int .u8 xk, .int .i64 xn,S xt, .slice rz xs.len cz, .bool xd])∧xs.len≤maxLen∧Below wr.heap.size wr w' ∧ Since w0 wr.heap.size w' none (fun W=>RS W rz xs)):=(HAg.out.1 w0 nr2 kr2 dr2 nc2 kc2 dc2 wr hrf bel).mono (by
      rintro e w' ⟨rz,cz,rfl,h1,h2,h3⟩
      rw [hX] at h1 h3 ⊢
      exact ⟨rz,cz,rfl,h1,h2,h3⟩)
     have HXD:Hid _:=hX
     clear d0 d1 d2 d3 d4 d5 d6 d7 d8 hrf hr hkc2 bel hX hb0
     go_wp2_with fail
     refine HWK.out.mono ?_
     rintro e w4 ⟨rz,cz,rfl,hxl,hb4,hs4⟩
     obtain ⟨W5,hW5⟩:∃W5,w4.alloc (.cells #[.int .u8 xk, .int .i64 xn, .string ⟨xt.toArray⟩, .slice rz xs.len cz, .bool xd] 32)=W5:=⟨_,rfl⟩
     have a4:Below w4.heap.size w4 W5:=by rw [←hW5];exact (Below.refl _ w4).alloc (Nat.le_refl _) _
     have q4:W5.heap[w4.heap.size]?=some (.cells #[.int .u8 xk, .int .i64 xn,S xt, .slice rz xs.len cz, .bool xd] 32 (0,0)):=by rw [←hW5];exact World.alloc_heap_new w4 _
     have HL5:Hid (LRow w0 (w.heap.size+2) W5 (.slice ra y c) ((W0.app A0).app (wrF p))):=(HLr.out.below hb4).below a4
     have hh5:=(HHr.out.step (hb4.mono hlr)).step (a4.mono (by have:=hb4.size;omega))
     have HH5:Hid _:=hh5
     have HS5:Hid (Since w0 (w.heap.size+2) W5 (Value.slice ra y c).ownBlock (fun W=>RS W rz xs)):=(hs4.below a4).but hlr (fun g e=>(HLr.out.lt g e).2)
     have HQ4:Hid _:=q4
     have hl5:=HH5.out.lt
     clear hb4 hs4 a4 q4 hh5 e0 e1 e2 e3 e4 e5 e6 e7 e8 z0 z1 z2 z3 z4 z5 z6 z7 z8 HWK
     go_upto_region 36 with fail
     clear hW5
     obtain ⟨x0,x1,x2,x3,x4,_⟩:=cells5 HQ4.out
     have lx:=cell_lt x0
     go_wp2_with (at_builtin;refine stop_of ?_)
     unfold Hid
     refine wpList_append_lrow rfl _ _ rfl w0 W5 (w.heap.size+2) y ((W0.app A0).app (wrF p)) (.slice ra y c) rfl HL5.out HLn.out hl5 (by omega) xk xn xt xs xd rz cz xs.len rfl hxl HS5.out _ rfl rfl ?_
     intro gb cap w6 hL6 hb6
     have HW1:Hid ((W0.app A0).app (wrF (p.app (.cons k2 t2 ns2 ks2 dk dn dt ds dd .nil)))=((W0.app A0).app (wrF p)).app (.cons xk xn xt xs xd .nil)):=by
      show _=_
      rw [wrF_app]
      have e1:wrF (.cons k2 t2 ns2 ks2 dk dn dt ds dd .nil) = .cons xk xn xt xs xd .nil:=by
       show (wrD ⟨k2,t2,ns2,ks2,⟨dk,dn,dt,ds,dd⟩⟩).fo .nil=_
       rw [HXD.out];rfl
      rw [e1];simp only [Fo.app_assoc]
     have HL6:Hid (LRow w0 (w.heap.size+2) w6 (.slice (some ⟨gb,0,none⟩) (y+1) cap) ((W0.app A0).app (wrF (p.app (.cons k2 t2 ns2 ks2 dk dn dt ds dd .nil))))):=by
      rw [HW1.out];exact hL6
     have HLn6:Hid (((W0.app A0).app (wrF (p.app (.cons k2 t2 ns2 ks2 dk dn dt ds dd .nil)))).len=y+1):=by
      show _=_
      rw [HW1.out,Fo.len_app,HLn.out];rfl
     have hh6:=HH5.out.step hb6
     have HH6:Hid _:=hh6
     have Hr2:Hid (RdF w0 g kb (ko+(x+1)*9)):=by have:=Hr.out;show RdF w0 g kb (ko+(x+1)*9);rw [show ko+(x+1)*9=ko+x*9+9 by omega];exact this
     clear hL6 hb6 hh6 x0 x1 x2 x3 x4 lx
     go_wp2_with fail
     go_roundw
     case rel=>exact ⟨x+1,y+1,p.app (.cons k2 t2 ns2 ks2 dk dn dt ds dd .nil),g,some ⟨gb,0,none⟩,cap,by go_num,rfl,by omega,by omega,by show _=_;rw [HP.out,Fm.app_assoc];rfl,Hr2,HAr2,HL6,HLn6,HH6⟩
     case measure=>simp [intOf];omega
def addF (L:List (List UInt8)) (s:List UInt8) (out:List (List UInt8)):List (List UInt8):=if (primOf s).isSome || (decide (s∈L) || decide (s∈out)) then out else out++[s]
def freeF:List (List UInt8)→List (List UInt8)→Nat→Fm→List (List UInt8)→List (List UInt8)
 | _,_,_, .nil,out=>out
 | L,L', n, .cons k t ns ks _ _ _ _ _ r,out =>
  freeF L L' (n-1) r (freeF (if n=0 then L' else L) ((if n=0 then L' else L)++ns) (if k=8 then ns.length else 0) ks (if hasTextB k then addF (if n=0 then L' else L) t out else out))
def free1 (L:List (List UInt8)) (f:Frm) (out:List (List UInt8)):List (List UInt8):=freeF L (L++f.names) (valsN f) f.kids (if hasTextB f.kind then addF L f.text out else out)
def Sim (B:List UInt8→Int) (L:List (List UInt8)):Prop:=∀s,0≤B s∧(B s=0↔s ∉ L)
theorem sim_nil:Sim (fun _=>0) []:=fun s=>⟨Int.le_refl _,by simp⟩
theorem sim_bind {B:List UInt8→Int} {L:List (List UInt8)} (h:Sim B L) (ns:List (List UInt8)):Sim (bindU B ns 1) (L++ns):=fun s=>by
 obtain ⟨h1,h2⟩:=h s
 have hc:(ns.count s:Int)=0↔s ∉ ns:=by
  rw [←List.count_eq_zero];omega
 simp only [bindU,List.mem_append,not_or]
 refine ⟨by omega,?_⟩
 rw [←h2, ←hc]
 omega
theorem add_eq {B:List UInt8→Int} {L:List (List UInt8)} (h:Sim B L) (s:List UInt8) (out:List (List UInt8)):addU B s out=addF L s out:=by
 have h2:=(h s).2
 unfold addU addF
 by_cases hL:s∈L
 ·have:B s≠0:=fun e=>(h2.1 e) hL
  have e:(B s == 0)=false:=beq_eq_false_iff_ne.2 this
  rw [e]
  cases primOf s<;>simp [hL]
 ·have e:(B s == 0)=true:=beq_iff_eq.2 (h2.2 hL)
  rw [e]
  cases primOf s with
  | some p=>simp
  | none=>by_cases ho:s∈out<;>simp [hL,ho]
theorem free_eq:∀(g:Fm) (B B' : List UInt8→Int) (L L' : List (List UInt8)) (n:Nat) (out:List (List UInt8)),Sim B L→Sim B' L' → useF B B' n g out=freeF L L' n g out
 | .nil,_,_,_,_,_,_,_,_=>rfl
 | .cons k t ns ks _ _ _ _ _ r,B,B', L,L', n,out,hB,hB' => by
  simp only [useF,freeF]
  have hC:Sim (if n=0 then B' else B) (if n=0 then L' else L):=by
   by_cases h:n=0
   ·rw [if_pos h,if_pos h];exact hB'
   ·rw [if_neg h,if_neg h];exact hB
  have e1:(if hasTextB k then addU (if n=0 then B' else B) t out else out)=(if hasTextB k then addF (if n=0 then L' else L) t out else out):=by
   rw [add_eq hC]
  rw [e1,free_eq ks _ _ _ _ _ _ hC (sim_bind hC ns),free_eq r B B' L L' _ _ hB hB']
theorem names_eq (f:Frm):usesM f=if (backM f).2≠0 then [] else free1 [] f []:=by
 unfold usesM
 split
 ·rfl
 ·unfold use1 free1
  rw [add_eq sim_nil,free_eq f.kids _ _ _ _ _ _ sim_nil (sim_bind sim_nil f.names)]
abbrev OwnT (w:World) (b:Nat) (v:Value) (l:List (List UInt8)):Prop:=w.ownsRow b 9 1 v l.length (l.map S)
theorem OwnT.sl {w:World} {b:Nat} {v:Value} {l:List (List UInt8)} (h:OwnT w b v l):∃ra c,v = .slice ra l.length c∧l.length≤c∧RX S w ra l:=by
 obtain ⟨ra,c,h1,h2,_⟩:=own_cap h
 obtain ⟨ra', c', h3,h4⟩:=own_rn h
 rw [h1] at h3
 cases h3
 exact ⟨ra,c,h1,h2,h4.rx⟩
theorem wpList_append_strs (W:World) {ops:Array Oper} {rest:List Oper} {o:Oper} {a:Act} {Q:Exit→Act→World→Prop} (hgd:o.guard=none) (s x:Operand)
  (ho:o.op = .call { callee := .builtin .append,args := #[s,x],argTypes := #[25,25] }) (base:Nat) (l1 l2:List (List UInt8)) (v:Value) (hs:a.eval s=v) (hO:OwnT W base v l1)
  (xa:Option Addr) (xc:Nat) (hx:a.eval x = .slice xa l2.length xc) (hR:RX S W xa l2) (hsz:l1.length+l2.length≤4000000) (hb:base≤W.heap.size)
  (h:∀v' w', OwnT w' base v' (l1++l2)→W.grownBy w' v.ownBlock→(v'.ownBlock=v.ownBlock∨v'.ownBlock=some W.heap.size)→wpList Tryz.prog ops Q rest (a.put o.dst v') w'):wpList Tryz.prog ops Q (o::rest) a W:=by
 obtain ⟨i0,hi0,hz0,hz1,hz2⟩:=info_parts infoStr
 obtain ⟨ra,cv,hv,hle,_⟩:=hO.sl
 cases h2:l2 with
 | nil =>
  subst h2 hv
  refine wpList_plain hgd fun _ hK=>wp_append_nothing W s x _ ho 9 i0 Tryz.underlying25 hi0 ra xa l1.length cv xc hle hs hx (hK _ _ ?_)
  exact h _ W (by rw [List.append_nil];exact hO) ⟨rfl,rfl,rfl,Nat.le_refl _,fun _ _ _=>rfl⟩ (.inl rfl)
 | cons y r =>
  have h0:l2.length≠0:=by rw [h2];simp
  obtain ⟨b,o', h3,h4⟩:=hR.at
  have h3:=h3 h0
  subst h3
  refine wpList_append_lies _ hgd s x _ ho base 9 i0 (.string ⟨#[]⟩) 1 16 Tryz.underlying25 hi0 hz0 hz1 hz2 rfl (by decide) v l1.length (l1.map S) hs hO ⟨b,o', none⟩ l2.length xc (l2.map S) hx (by simp) (fun j u hu=>?_) (fun u hu=>?_) (by omega) (by unfold maxLen;omega) (by omega) hb _ rfl ?_
  ·obtain ⟨x', hx', rfl⟩:∃x', l2[j]?=some x' ∧ S x' = u:=by simpa using hu
   rw [ad_add]
   exact (h4 j x' hx').2
  ·obtain ⟨x', _,rfl⟩:=List.mem_map.1 hu
   rfl
  intro g cp w6 hown hgr hat hl6
  refine h _ w6 ?_ hgr (hat.imp (fun e=>e.symm) (fun e=>by rw [e];rfl))
  show World.ownsRow _ _ _ _ _ _ _
  rw [List.length_append,List.map_append]
  exact hown
structure FrX (w:World) (ov0:Value) (zo:Obj) (wr:World) (ov:Value):Prop where
 grown:w.grownBy wr ov0.ownBlock
 loc:ov.ownBlock=ov0.ownBlock∨∃g,ov.ownBlock=some g∧w.heap.size<g
 box:wr.heap[w.heap.size]?=some zo
theorem FrX.step {w wr w' : World} {ov0 ov ov' : Value} {zo:Obj} (h:FrX w ov0 zo wr ov) (hv0:∀g,ov0.ownBlock=some g→g<w.heap.size) (hg:wr.grownBy w' ov.ownBlock) (ho:ov'.ownBlock=ov.ownBlock∨∃g,ov'.ownBlock=some g∧wr.heap.size≤g):FrX w ov0 zo w' ov' := by
 have hl:=(Array.getElem?_eq_some_iff.1 h.box).1
 refine ⟨⟨hg.os.trans h.grown.os,hg.tape.trans h.grown.tape,hg.output.trans h.grown.output,Nat.le_trans h.grown.size hg.size,fun g h1 h2=>?_⟩,?_,?_⟩
 ·refine (hg.block g (Nat.lt_of_lt_of_le h1 h.grown.size) (fun e=>?_)).trans (h.grown.block g h1 h2)
  rcases h.loc with e1|⟨g', e1,e2⟩
  ·exact h2 (e.trans e1)
  ·rw [e1] at e;cases e;omega
 ·rcases ho with e|⟨g', e,e2⟩
  ·rw [e];exact h.loc
  ·exact .inr ⟨g', e,by omega⟩
 ·refine (hg.block _ hl (fun e=>?_)).trans h.box
  rcases h.loc with e1|⟨g', e1,e2⟩
  ·rw [e1] at e;have:=hv0 _ e.symm;omega
  ·rw [e1] at e;cases e;omega
theorem FrX.below {w wr w' : World} {ov0 ov:Value} {zo:Obj} (h:FrX w ov0 zo wr ov) (hv0:∀g,ov0.ownBlock=some g→g<w.heap.size) (hb:Below wr.heap.size wr w'):FrX w ov0 zo w' ov :=
 h.step hv0 ⟨hb.os,hb.tape,hb.output,hb.size,fun g h1 _=>hb.block g h1⟩ (.inl rfl)
theorem FrX.home {w0 w wr:World} {ov0 ov:Value} {zo:Obj} {b:Nat} (h:FrX w ov0 zo wr ov) (hb:Below w0.heap.size w0 w) (hw:w0.heap.size≤b) (ho:∀g,ov0.ownBlock=some g→b≤g):Below w0.heap.size w0 wr :=
 hb.trans ⟨h.grown.os,h.grown.tape,h.grown.output,h.grown.size,fun g h1=>h.grown.block g (Nat.lt_of_lt_of_le h1 hb.size) (fun e=>by have:=ho g e.symm;omega)⟩
theorem OwnT.grown {w w' : World} {b:Nat} {v:Value} {l:List (List UInt8)} {row:Option Nat} (h:OwnT w b v l) (hg:w.grownBy w' row) (hn:∀g,v.ownBlock=some g→row≠some g):OwnT w' b v l :=
 own_same h fun g e=>hg.block g (h.lt g e).2 (fun e2=>hn g e e2.symm)
def RFreC (f:Frm):Prop:=∀(w0:World) (nr kr dr:Option Addr) (nc kc dc:Nat) (w:World) (b:Nat) (L ou:List (List UInt8)) (iv ov0:Value),RFo w0 f nr kr dr→Below w0.heap.size w0 w→w0.heap.size≤b→b≤w.heap.size→OwnT w b iv L→OwnT w b ov0 ou→(∀g,iv.ownBlock=some g→ov0.ownBlock≠some g)→FOk f→f.kids.oks→L.length+(f.fm .nil).wt≤2000000→ou.length+(f.fm .nil).wt≤2000000 →
 Calls Tryz.prog 79 #[frmV f (.slice nr f.names.length nc) (.slice kr f.kids.len kc) (.slice dr f.dat.s.len dc),iv,ov0] w fun e w' => ∃v', e = .returned v' ∧ OwnT w' b v' (free1 L f ou)∧w.grownBy w' ov0.ownBlock∧(v'.ownBlock=ov0.ownBlock∨∃g,v'.ownBlock=some g∧w.heap.size≤g)
theorem free_cons (L L' : List (List UInt8)) (n:Nat) (k:Int) (t:List UInt8) (ns:List (List UInt8)) (ks:Fm) (dk dn:Int) (dt:List UInt8) (ds:Fo) (dd:Bool) (r:Fm) (o:List (List UInt8)) :
  freeF L L' n (.cons k t ns ks dk dn dt ds dd r) o=freeF L L' (n-1) r (free1 (if n=0 then L' else L) ⟨k,t,ns,ks,⟨dk,dn,dt,ds,dd⟩⟩ o):=rfl
theorem addF_len (L:List (List UInt8)) (s:List UInt8) (o:List (List UInt8)):(addF L s o).length≤o.length+1:=by
 unfold addF
 split
 ·omega
 ·simp
theorem freeF_len:∀(g:Fm) (L L' : List (List UInt8)) (n:Nat) (o:List (List UInt8)),(freeF L L' n g o).length≤o.length+g.wt
 | .nil,_,_,_,_=>by simp [freeF]
 | .cons k t ns ks _ _ _ ds _ r,L,L', n,o=>by
  simp only [freeF,Fm.wt]
  refine Nat.le_trans (freeF_len r _ _ _ _) ?_
  refine Nat.le_trans (Nat.add_le_add_right (freeF_len ks _ _ _ _) _) ?_
  split
  ·have:=addF_len (if n=0 then L' else L) t o
   omega
  ·omega
theorem free1_len (L:List (List UInt8)) (f:Frm) (o:List (List UInt8)):(free1 L f o).length≤o.length+(f.fm .nil).wt:=by
 have h:=freeF_len f.kids L (L++f.names) (valsN f) (if hasTextB f.kind then addF L f.text o else o)
 have hw:(f.fm .nil).wt=4+2*f.names.length+f.kids.wt+f.dat.s.size+0:=rfl
 have h2:(if hasTextB f.kind then addF L f.text o else o).length≤o.length+1:=by
  split
  ·exact addF_len _ _ _
  ·omega
 unfold free1
 omega
theorem rfree_rec (k:Int) (t:List UInt8) (ns:List (List UInt8)) (ks:Fm) (d:Dt) (hall:EachF RFreC ks):RFreC ⟨k,t,ns,ks,d⟩:=by
 intro w0 nr kr dr nc kc dc w b L ou iv ov0 hR hB0 hwb hbw hI hO hdis hF hoks hl1 hl2
 change Calls Tryz.prog 79 #[frmV ⟨k,t,ns,ks,d⟩ (.slice nr ns.length nc) (.slice kr ks.len kc) (.slice dr d.s.len dc),iv,ov0] w _
 have hv0:∀g,ov0.ownBlock=some g→b≤g∧g<w.heap.size:=fun g e=>hO.lt g e
 have hi0:∀g,iv.ownBlock=some g→b≤g∧g<w.heap.size:=fun g e=>hI.lt g e
 have hwt:(Frm.fm ⟨k,t,ns,ks,d⟩ .nil).wt=4+2*ns.length+ks.wt+d.s.size+0:=rfl
 rw [hwt] at hl1 hl2
 have a1:=(Below.refl _ w).alloc (Nat.le_refl w.heap.size) (Z9 ⟨k,t,ns,ks,d⟩ (.slice nr ns.length nc) (.slice kr ks.len kc) (.slice dr d.s.len dc))
 have q1:=World.alloc_heap_new w (Z9 ⟨k,t,ns,ks,d⟩ (.slice nr ns.length nc) (.slice kr ks.len kc) (.slice dr d.s.len dc))
 obtain ⟨W1,hW1⟩:∃W1,w.alloc (Z9 ⟨k,t,ns,ks,d⟩ (.slice nr ns.length nc) (.slice kr ks.len kc) (.slice dr d.s.len dc))=W1:=⟨_,rfl⟩
 have hs1:W1.heap.size=w.heap.size+1:=by rw [←hW1,World.size_alloc]
 rw [hW1] at a1 q1
 have HX:Hid (FrX w ov0 (Z9 ⟨k,t,ns,ks,d⟩ (.slice nr ns.length nc) (.slice kr ks.len kc) (.slice dr d.s.len dc)) W1 ov0):=⟨⟨a1.os,a1.tape,a1.output,a1.size,fun g h1 _=>a1.block g h1⟩, .inl rfl,q1⟩
 have HI:Hid (OwnT W1 b iv L):=own_same hI fun g e=>a1.block g (hi0 g e).2
 have HO:Hid (OwnT W1 b ov0 ou):=own_same hO fun g e=>a1.block g (hv0 g e).2
 obtain ⟨ia,ic,hiv,_,hIR⟩:=HI.out.sl
 obtain ⟨oa,oc,hov,_,hOR⟩:=HO.out.sl
 have HIR:Hid (RX S W1 ia L):=hIR
 have HOR:Hid (RX S W1 oa ou):=hOR
 have HDis:Hid (∀g,iv.ownBlock=some g→ov0.ownBlock≠some g):=hdis
 have HV0:Hid (∀g,ov0.ownBlock=some g→b≤g∧g<w.heap.size):=hv0
 have HI0:Hid (∀g,iv.ownBlock=some g→b≤g∧g<w.heap.size):=hi0
 have HRN:Hid (RN w0 nr ns):=hR.n
 have HRK:Hid (RSF w0 kr ks):=hR.k
 have HB0:Hid (Below w0.heap.size w0 w):=hB0
 have HWB:Hid (w0.heap.size≤b∧b≤w.heap.size):=⟨hwb,hbw⟩
 have HT:Hid (t.length≤maxLen):=by show _≤_;have:t.length≤_:=hF.t;unfold maxLen;omega
 have HK:Hid ks.oks:=hoks
 have HNL:Hid (ns.length≤1000000):=hF.nl
 have HKL:Hid (ks.len≤1000000):=hF.kl
 have HAll:Hid (EachF RFreC ks):=hall
 have HL1:Hid (L.length+(4+2*ns.length+ks.wt+d.s.size+0)≤2000000):=hl1
 have HL2:Hid (ou.length+(4+2*ns.length+ks.wt+d.s.size+0)≤2000000):=hl2
 have HFD:Hid (free1 L ⟨k,t,ns,ks,d⟩ ou=freeF L (L++ns) (valsN ⟨k,t,ns,ks,d⟩) ks (if hasTextB k then addF L t ou else ou)):=rfl
 have HAD:Hid (addF L t ou=if (primOf t).isSome || (decide (t∈L) || decide (t∈ou)) then ou else ou++[t]):=rfl
 obtain ⟨out1,hout1⟩:∃o1,(if hasTextB k then addF L t ou else ou)=o1:=⟨_,rfl⟩
 rw [hout1] at HFD
 have HO1:Hid (out1=if hasTextB k then addF L t ou else ou):=hout1.symm
 have HO1l:Hid (out1.length≤ou.length+1):=by
  show _≤_
  rw [HO1.out]
  split
  ·exact addF_len _ _ _
  ·omega
 obtain ⟨vn,hvn⟩:∃vn,valsN ⟨k,t,ns,ks,d⟩=vn:=⟨_,rfl⟩
 rw [hvn] at HFD
 have HVN:Hid (vn=if k=8 then ns.length else 0):=hvn.symm
 rw [HFD.out]
 obtain ⟨⟨z0,z1,z2,z3,z4,z5,z6,z7,z8⟩,_⟩:=cells9 q1
 clear hall hR hB0 hwb hbw hI hO hdis hF hoks hl1 hl2 hwt hv0 hi0 hIR hOR hout1 hvn a1 q1
 rw [hiv,hov]
 go_enter Tryz.func79,Tryz.ntmps79
 go_upto_region 1 with fail
 clear hW1
 rw [hiv] at HI HDis HI0
 rw [hov] at HO HDis HV0 HX
 clear hiv hov
 go_cut [24] (fun v wx=>v = .bool (hasTextB k)∧wx=W1)
 case first =>
  have HTB:Hid (hasTextB k=(k == 2 || (k == 5 || k == 6))):=rfl
  cases h2:k == 2 with
  | true =>
   go_wp2_with fail
   go_meet
   exact ⟨by rw [HTB.out,h2];rfl,rfl⟩
  | false =>
   cases h5:k == 5 with
   | true =>
    go_wp2_with fail
    go_meet
    exact ⟨by rw [HTB.out,h2,h5];rfl,rfl⟩
   | false =>
    go_wp2_with fail
    go_meet
    exact ⟨by rw [HTB.out,h2,h5];rfl,rfl⟩
 case rest =>
  obtain ⟨rfl,rfl⟩:=hcut
  clear z0 z1 z2 z3 z4 z5 z6 z7 z8
  obtain ⟨⟨z0,z1,z2,z3,z4,z5,z6,z7,z8⟩,_⟩:=cells9 HX.out.box
  obtain ⟨hb,hhb⟩:∃hb,hasTextB k=hb:=⟨_,rfl⟩
  rw [hhb] at HO1 ⊢
  clear hhb
  have hv1:∀g,(Value.slice oa ou.length oc).ownBlock=some g→g<w.heap.size:=fun g e=>(HV0.out g e).2
  have HVL:Hid (∀g,(Value.slice oa ou.length oc).ownBlock=some g→g<w.heap.size):=hv1
  clear hv1
  go_upto_if 24 with fail
  go_cut [2] (fun ov wx=>∃(ra:Option Addr) (c:Nat),ov = .slice ra out1.length c∧Hid (OwnT wx b (.slice ra out1.length c) out1)∧Hid (FrX w (.slice oa ou.length oc) (Z9 ⟨k,t,ns,ks,d⟩ (.slice nr ns.length nc) (.slice kr ks.len kc) (.slice dr d.s.len dc)) wx (.slice ra out1.length c))∧Hid (OwnT wx b (.slice ia L.length ic) L)∧Hid (∀g,(Value.slice ia L.length ic).ownBlock=some g→(Value.slice ra out1.length c).ownBlock≠some g))
  case first =>
   cases hb with
   | false =>
    have HE:Hid (out1=ou):=by show _=_;rw [HO1.out];rfl
    go_wp2_with fail
    go_meet
    rw [HE.out]
    exact ⟨oa,oc,rfl,HO,HX,HI,HDis⟩
   | true =>
    obtain ⟨pv,pn,pb,hpv,hpb⟩:∃(pv:Nat) (pn:Int) (pb:Bool),primV (primOf t) = .tuple #[.int .u8 pv, .int .i64 pn, .bool pb]∧pb=(primOf t).isSome:=by
     cases primOf t with
     | none=>exact ⟨0,0,false,rfl,rfl⟩
     | some p=>exact ⟨p,argsOf p,true,rfl,rfl⟩
    have HE:Hid (out1=if pb || (decide (t∈L) || decide (t∈ou)) then ou else ou++[t]):=by
     show _=_
     rw [HO1.out,hpb];exact HAD.out
    have HPC:Hid (∀wx,Calls Tryz.prog 11 #[S t] wx fun e w' => e = .returned (.tuple #[.int .u8 pv, .int .i64 pn, .bool pb])∧Below wx.heap.size wx w'):=fun wx=>by
     rw [←hpv];exact rprim_any t wx HT.out
    clear hpv hpb
    go_wp2_with fail
    refine (HPC.out _).mono ?_
    rintro e w2 ⟨rfl,hb2⟩
    have HX2:Hid (FrX w (.slice oa ou.length oc) (Z9 ⟨k,t,ns,ks,d⟩ (.slice nr ns.length nc) (.slice kr ks.len kc) (.slice dr d.s.len dc)) w2 (.slice oa ou.length oc)):=HX.out.below HVL.out hb2
    have HI2:Hid (OwnT w2 b (.slice ia L.length ic) L):=own_same HI.out fun g e=>hb2.block g (HI.out.lt g e).2
    have HO2:Hid (OwnT w2 b (.slice oa ou.length oc) ou):=own_same HO.out fun g e=>hb2.block g (HO.out.lt g e).2
    have HIR2:Hid (RX S w2 ia L):=HIR.out.below hb2
    have HOR2:Hid (RX S w2 oa ou):=HOR.out.below hb2
    have hll:L.length≤maxLen:=by have:=HL1.out;unfold maxLen;omega
    have hlo:ou.length≤maxLen:=by have:=HL2.out;unfold maxLen;omega
    have HA1:Hid (Calls Tryz.prog 117 #[.slice ia L.length ic,S t] w2 fun e w' => e = .returned (.bool (decide (t∈L)))∧w' = w2):=ramong_any L t ia ic w2 hll HIR2.out
    have HA2:Hid (Calls Tryz.prog 117 #[.slice oa ou.length oc,S t] w2 fun e w' => e = .returned (.bool (decide (t∈ou)))∧w' = w2):=ramong_any ou t oa oc w2 hlo HOR2.out
    clear hb2 z0 z1 z2 z3 z4 z5 z6 z7 z8 hll hlo
    obtain ⟨⟨z0,z1,z2,z3,z4,z5,z6,z7,z8⟩,_⟩:=cells9 HX2.out.box
    cases pb with
    | true =>
     have HE2:Hid (out1=ou):=by show _=_;rw [HE.out];rfl
     go_wp2_with fail
     go_meet
     rw [HE2.out]
     exact ⟨oa,oc,rfl,HO2,HX2,HI2,HDis⟩
    | false =>
     obtain ⟨x,hx⟩:∃x,decide (t∈L)=x:=⟨_,rfl⟩
     obtain ⟨y,hy⟩:∃y,decide (t∈ou)=y:=⟨_,rfl⟩
     rw [hx] at HA1 HE
     rw [hy] at HA2 HE
     clear hx hy
     go_wp2_with fail
     refine HA1.out.mono ?_
     rintro e w3 ⟨rfl,rfl⟩
     cases x with
     | true =>
      have HE2:Hid (out1=ou):=by show _=_;rw [HE.out];rfl
      go_wp2_with fail
      go_meet
      rw [HE2.out]
      exact ⟨oa,oc,rfl,HO2,HX2,HI2,HDis⟩
     | false =>
      go_wp2_with fail
      refine HA2.out.mono ?_
      rintro e w4 ⟨rfl,rfl⟩
      cases y with
      | true =>
       have HE2:Hid (out1=ou):=by show _=_;rw [HE.out];rfl
       go_wp2_with fail
       go_meet
       rw [HE2.out]
       exact ⟨oa,oc,rfl,HO2,HX2,HI2,HDis⟩
      | false =>
       have HE2:Hid (out1=ou++[t]):=by show _=_;rw [HE.out];rfl
       have a4:=(Below.refl _ w4).alloc (Nat.le_refl w4.heap.size) (.cells #[S t] 9)
       have HX3:Hid (FrX w (.slice oa ou.length oc) (Z9 ⟨k,t,ns,ks,d⟩ (.slice nr ns.length nc) (.slice kr ks.len kc) (.slice dr d.s.len dc)) (w4.alloc (.cells #[S t] 9)) (.slice oa ou.length oc)):=HX2.out.below HVL.out a4
       have HO3:Hid (OwnT (w4.alloc (.cells #[S t] 9)) b (.slice oa ou.length oc) ou):=own_same HO2.out fun g e=>a4.block g (HO2.out.lt g e).2
       have HI3:Hid (OwnT (w4.alloc (.cells #[S t] 9)) b (.slice ia L.length ic) L):=own_same HI2.out fun g e=>a4.block g (HI2.out.lt g e).2
       have HRT:Hid (RX S (w4.alloc (.cells #[S t] 9)) (some ⟨w4.heap.size,0,none⟩) [t]):=⟨w4.heap.size,0, .inr rfl,fun j x hx=>⟨by rw [World.size_alloc];omega,by
        have h1:j=0:=by have:=(List.getElem?_eq_some_iff.1 hx).1;simpa using this
        subst h1
        cases hx
        rw [Nat.zero_add]
        exact new_cell w4 _ _ 0 (S t) rfl⟩⟩
       have hbs:b≤(w4.alloc (.cells #[S t] 9)).heap.size:=by have:=HWB.out.2;have:=HX3.out.grown.size;omega
       have hls:ou.length+[t].length≤4000000:=by have:=HL2.out;simp;omega
       clear a4
       go_wp2_with (at_builtin;refine stop_of ?_)
       unfold Hid
       refine wpList_append_strs _ rfl _ _ rfl b ou [t] (.slice oa ou.length oc) rfl HO3.out (some ⟨w4.heap.size,0,none⟩) 1 rfl HRT.out hls hbs ?_
       intro v5 w5 hO5 hg5 hl5
       obtain ⟨ra5,c5,hv5,_,_⟩:=hO5.sl
       subst hv5
       have HX5:Hid (FrX w (.slice oa ou.length oc) (Z9 ⟨k,t,ns,ks,d⟩ (.slice nr ns.length nc) (.slice kr ks.len kc) (.slice dr d.s.len dc)) w5 (.slice ra5 (ou++[t]).length c5)):=HX3.out.step HVL.out hg5 (hl5.imp id fun e=>⟨_,e,Nat.le_refl _⟩)
       have HO5:Hid (OwnT w5 b (.slice ra5 (ou++[t]).length c5) (ou++[t])):=hO5
       have HI5:Hid (OwnT w5 b (.slice ia L.length ic) L):=HI3.out.grown hg5 HDis.out
       have HD5:Hid (∀g,(Value.slice ia L.length ic).ownBlock=some g→(Value.slice ra5 (ou++[t]).length c5).ownBlock≠some g):=fun g e e2=>by
        rcases hl5 with h|h
        ·exact HDis.out g e (h.symm.trans e2)
        ·rw [h] at e2
         have h1:=(HI3.out.lt g e).2
         have h2:=Option.some.inj e2
         omega
       clear hO5 hg5 hl5 hbs hls
       go_wp2_with fail
       go_meet
       rw [HE2.out]
       exact ⟨ra5,c5,by rw [List.length_append];rfl,HO5,HX5,HI5,HD5⟩
  case rest =>
   obtain ⟨ra,c,rfl,HO2,HX2,HI2,HD2⟩:=hcut
   clear z0 z1 z2 z3 z4 z5 z6 z7 z8 HX HI HO HDis HIR HOR HO1 HAD
   obtain ⟨⟨z0,z1,z2,z3,z4,z5,z6,z7,z8⟩,_⟩:=cells9 HX2.out.box
   obtain ⟨ia2,ic2,hiv2,_,hIR2⟩:=HI2.out.sl
   cases hiv2
   have HIR2:Hid (RX S wc ia L):=hIR2
   have hbc:b≤wc.heap.size:=by have:=HWB.out.2;have:=HX2.out.grown.size;omega
   have hlL:([]:List (List UInt8)).length+L.length≤4000000:=by have:=HL1.out;simp;omega
   clear hIR2
   go_wp2_with (at_builtin;refine stop_of ?_)
   unfold Hid
   refine wpList_append_strs wc rfl _ _ rfl b [] L (.slice none 0 0) rfl (World.ownsRow_nil _ _ _ _) ia ic rfl HIR2.out hlL hbc ?_
   intro v6 w6 hO6 hg6 hl6
   obtain ⟨ma,mc,hv6,_,_⟩:=hO6.sl
   subst hv6
   have hb6:Below wc.heap.size wc w6:=⟨hg6.os,hg6.tape,hg6.output,hg6.size,fun g h1=>hg6.block g h1 (by rintro ⟨⟩)⟩
   have HO6:Hid (OwnT w6 b (.slice ma ([]++L).length mc) ([]++L)):=hO6
   have HM6:Hid (∀g,(Value.slice ma ([]++L).length mc).ownBlock=some g→wc.heap.size≤g):=fun g e=>by
    rcases hl6 with h|h
    ·rw [e] at h;cases h
    ·rw [e] at h;have:=Option.some.inj h;omega
   have HB6:Hid (Below wc.heap.size wc w6):=hb6
   have q6:=(hb6.block _ (Array.getElem?_eq_some_iff.1 HX2.out.box).1).trans HX2.out.box
   clear z0 z1 z2 z3 z4 z5 z6 z7 z8
   obtain ⟨⟨z0,z1,z2,z3,z4,z5,z6,z7,z8⟩,_⟩:=cells9 q6
   have hbH:Below w0.heap.size w0 w6:=(HX2.out.home HB0.out HWB.out.1 (fun g e=>(HV0.out g e).1)).trans (hb6.mono (HX2.out.home HB0.out HWB.out.1 (fun g e=>(HV0.out g e).1)).size)
   have HRN6:Hid (RX S w6 nr ns):=(HRN.out.below hbH).rx
   have hb6s:b≤w6.heap.size:=by have:=hb6.size;omega
   have hlN:(([]:List (List UInt8))++L).length+ns.length≤4000000:=by have:=HL1.out;simp;omega
   clear hO6 hg6 hl6 hb6 q6 hbH hlL
   go_wp2_with (at_builtin;refine stop_of ?_)
   unfold Hid
   refine wpList_append_strs w6 rfl _ _ rfl b ([]++L) ns (.slice ma ([]++L).length mc) rfl HO6.out nr nc rfl HRN6.out hlN hb6s ?_
   intro v7 w7 hO7 hg7 hl7
   obtain ⟨na,nc7,hv7,_,_⟩:=hO7.sl
   subst hv7
   obtain ⟨ml,hml⟩:∃ml,(([]++L)++ns).length=ml:=⟨_,rfl⟩
   have HML:Hid ((L++ns).length=ml):=hml
   rw [hml] at hO7 hl7 ⊢
   clear hml
   have hb7:Below wc.heap.size wc w7:=HB6.out.trans ⟨hg7.os,hg7.tape,hg7.output,hg7.size,fun g h1=>hg7.block g (Nat.lt_of_lt_of_le h1 HB6.out.size) (fun e=>by have:=HM6.out g e.symm;omega)⟩
   have HM7:Hid (∀g,(Value.slice na ml nc7).ownBlock=some g→wc.heap.size≤g):=fun g e=>by
    rcases hl7 with h|h
    ·exact HM6.out g (h.symm.trans e)
    ·rw [e] at h;have:=Option.some.inj h;have:=HB6.out.size;omega
   have HO7:Hid (OwnT w7 b (.slice na ml nc7) (L++ns)):=by
    have:([]++L)++ns=L++ns:=rfl
    exact hO7
   have HX7:Hid (FrX w (.slice oa ou.length oc) (Z9 ⟨k,t,ns,ks,d⟩ (.slice nr ns.length nc) (.slice kr ks.len kc) (.slice dr d.s.len dc)) w7 (.slice ra out1.length c)):=HX2.out.below HVL.out hb7
   have HI7:Hid (OwnT w7 b (.slice ia L.length ic) L):=own_same HI2.out fun g e=>hb7.block g (HI2.out.lt g e).2
   have HO17:Hid (OwnT w7 b (.slice ra out1.length c) out1):=own_same HO2.out fun g e=>hb7.block g (HO2.out.lt g e).2
   have HD7:Hid (∀g,(Value.slice na ml nc7).ownBlock=some g→(Value.slice ra out1.length c).ownBlock≠some g):=fun g e e2=>by
    have h1:=HM7.out g e
    have h2:=(HO2.out.lt g e2).2
    omega
   obtain ⟨kb,ko,hkz,hKd⟩:=HRK.out
   have Hkr:Hid (ks.len≠0→kr=some ⟨kb,ko,none⟩):=fun h=>hkz.resolve_left h
   have HKd:Hid (RdF w0 ks kb ko):=hKd
   have HLL:Hid (out1.length+ks.wt≤2000000):=by
    show _≤_
    have h1:=HO1l.out
    have h2:=HL2.out
    omega
   clear hO7 hg7 hl7 hb7 hkz hKd z0 z1 z2 z3 z4 z5 z6 z7 z8 HO6 HM6 HB6 HRN6 HX2 HI2 HO2 HIR2 hb6s hlN hbc
   obtain ⟨⟨z0,z1,z2,z3,z4,z5,z6,z7,z8⟩,_⟩:=cells9 HX7.out.box
   go_wp2_with fail
   go_loopw [2,11] (fun ov i wr=>∃(j:Nat) (r:Fm) (oj:List (List UInt8)) (rj:Option Addr) (cj:Nat),i = .int .i64 j∧ov = .slice rj oj.length cj∧r.len+j=ks.len∧Hid (RdF w0 r kb (ko+j*9))∧Hid (EachF RFreC r)∧Hid r.oks∧Hid (OwnT wr b (.slice rj oj.length cj) oj)∧Hid (FrX w (.slice oa ou.length oc) (Z9 ⟨k,t,ns,ks,d⟩ (.slice nr ns.length nc) (.slice kr ks.len kc) (.slice dr d.s.len dc)) wr (.slice rj oj.length cj))∧Hid (OwnT wr b (.slice ia L.length ic) L)∧Hid (OwnT wr b (.slice na ml nc7) (L++ns))∧Hid (∀g,(Value.slice ia L.length ic).ownBlock=some g→(Value.slice rj oj.length cj).ownBlock≠some g)∧Hid (∀g,(Value.slice na ml nc7).ownBlock=some g→(Value.slice rj oj.length cj).ownBlock≠some g)∧Hid (freeF L (L++ns) (vn-j) r oj=freeF L (L++ns) vn ks out1)∧Hid (oj.length+r.wt≤2000000∧r.wt≤ks.wt)) (fun _ i _=>ks.len-(intOf i).toNat)
   case atStart=>exact ⟨0,ks,out1,ra,c,rfl,rfl,by simp,by simpa using HKd,HAll,HK,HO17,HX7,HI7,HO7,HD2,HD7,rfl,HLL.out,Nat.le_refl _⟩
   case round =>
    have hkl:=HKL.out
    obtain ⟨j,r,oj,rj,cj,rfl,rfl,hj,HG,HAr,HOk,HOj,HXj,HIj,HMj,HDj,HDm,HEq,HLj⟩:=hrel
    clear z0 z1 z2 z3 z4 z5 z6 z7 z8
    obtain ⟨⟨z0,z1,z2,z3,z4,z5,z6,z7,z8⟩,_⟩:=cells9 HXj.out.box
    cases r with
    | nil =>
     have hj' : j=ks.len:=by simpa [Fm.len] using hj
     have i1:¬ ((j:Int)<(ks.len:Int)):=by omega
     have H:Hid (freeF L (L++ns) vn ks out1=oj):=by show _=_;rw [←HEq.out];rfl
     clear hj hj'
     go_wp2_with fail
     go_ret
     refine ⟨.slice rj oj.length cj,rfl,?_,HXj.out.grown,HXj.out.loc.imp id fun ⟨g,e,h⟩=>⟨g,e,by omega⟩⟩
     rw [H.out]
     exact HOj.out
    | cons k2 t2 ns2 ks2 dk dn dt ds dd r =>
     simp only [Fm.len] at hj
     have i1:(j:Int)<(ks.len:Int):=by omega
     have hkr:=Hkr.out (by omega)
     rw [hkr] at z3
     clear hkr
     obtain ⟨hb0,nr2,nc2,kr2,kc2,dr2,dc2,⟨d0,d1,d2,d3,d4,d5,d6,d7,d8⟩,hrf,hr,hkc2⟩:=rdf_cons2 HG.out
     have bel:=HXj.out.home HB0.out HWB.out.1 (fun g e=>(HV0.out g e).1)
     have e0:=below_cells bel _ _ d0
     have e1:=below_cells bel _ _ d1
     have e2:=below_cells bel _ _ d2
     have e3:=below_cells bel _ _ d3
     have e4:=below_cells bel _ _ d4
     have e5:=below_cells bel _ _ d5
     have e6:=below_cells bel _ _ d6
     have e7:=below_cells bel _ _ d7
     have e8:=below_cells bel _ _ d8
     have Hr:Hid (RdF w0 r kb (ko+j*9+9)):=hr
     have HAr2:Hid (EachF RFreC r):=HAr.out.2
     have HOr2:Hid r.oks:=HOk.out.2.2
     have hbr:b≤wr.heap.size:=by have:=HWB.out.2;have:=HXj.out.grown.size;omega
     have hwk:(Frm.fm ⟨k2,t2,ns2,ks2,⟨dk,dn,dt,ds,dd⟩⟩ .nil).wt=4+2*ns2.length+ks2.wt+ds.size+0:=rfl
     have hwr:Fm.wt (.cons k2 t2 ns2 ks2 dk dn dt ds dd r)=4+2*ns2.length+ks2.wt+ds.size+r.wt:=rfl
     have hLj:=HLj.out
     rw [hwr] at hLj
     have hL1:=HL1.out
     have HCC:Hid (∀(Lx:List (List UInt8)) (xv:Value),Lx.length≤L.length+ns.length→OwnT wr b xv Lx→(∀g,xv.ownBlock=some g→(Value.slice rj oj.length cj).ownBlock≠some g)→Calls Tryz.prog 79 #[frmV ⟨k2,t2,ns2,ks2,⟨dk,dn,dt,ds,dd⟩⟩ (.slice nr2 ns2.length nc2) (.slice kr2 ks2.len kc2) (.slice dr2 ds.len dc2),xv, .slice rj oj.length cj] wr fun e w' => ∃v', e = .returned v' ∧ OwnT w' b v' (free1 Lx ⟨k2,t2,ns2,ks2,⟨dk,dn,dt,ds,dd⟩⟩ oj)∧wr.grownBy w' (Value.slice rj oj.length cj).ownBlock∧(v'.ownBlock=(Value.slice rj oj.length cj).ownBlock∨∃g,v'.ownBlock=some g∧wr.heap.size≤g)):=fun Lx xv hlx hox hdx =>
      HAr.out.1 w0 nr2 kr2 dr2 nc2 kc2 dc2 wr b Lx oj xv (.slice rj oj.length cj) hrf bel HWB.out.1 hbr hox HOj.out hdx HOk.out.1 HOk.out.2.1 (by rw [hwk];omega) (by rw [hwk];omega)
     have HFC:Hid (freeF L (L++ns) vn ks out1=freeF L (L++ns) (vn-(j+1)) r (free1 (if vn-j=0 then L++ns else L) ⟨k2,t2,ns2,ks2,⟨dk,dn,dt,ds,dd⟩⟩ oj)):=by
      show _=_
      rw [←HEq.out,free_cons,Nat.sub_sub]
     have HLk:Hid (4+2*ns2.length+ks2.wt+ds.size+r.wt+oj.length≤2000000∧r.wt≤ks.wt):=⟨by omega,by omega⟩
     have hvn:=HVN.out
     have Hr2:Hid (RdF w0 r kb (ko+(j+1)*9)):=by have:=Hr.out;show RdF w0 r kb (ko+(j+1)*9);rw [show ko+(j+1)*9=ko+j*9+9 by omega];exact this
     have HSt:Hid (∀(Lx:List (List UInt8)) (v' : Value) (w' : World),Lx=(if vn-j=0 then L++ns else L)→OwnT w' b v' (free1 Lx ⟨k2,t2,ns2,ks2,⟨dk,dn,dt,ds,dd⟩⟩ oj)→wr.grownBy w' (Value.slice rj oj.length cj).ownBlock→(v'.ownBlock=(Value.slice rj oj.length cj).ownBlock∨∃g,v'.ownBlock=some g∧wr.heap.size≤g) →
       ∃(o2:List (List UInt8)) (r2:Option Addr) (c2:Nat),v' = .slice r2 o2.length c2∧Hid (OwnT w' b (.slice r2 o2.length c2) o2)∧Hid (FrX w (.slice oa ou.length oc) (Z9 ⟨k,t,ns,ks,d⟩ (.slice nr ns.length nc) (.slice kr ks.len kc) (.slice dr d.s.len dc)) w' (.slice r2 o2.length c2))∧Hid (OwnT w' b (.slice ia L.length ic) L)∧Hid (OwnT w' b (.slice na ml nc7) (L++ns))∧Hid (∀g,(Value.slice ia L.length ic).ownBlock=some g→(Value.slice r2 o2.length c2).ownBlock≠some g)∧Hid (∀g,(Value.slice na ml nc7).ownBlock=some g→(Value.slice r2 o2.length c2).ownBlock≠some g)∧Hid (freeF L (L++ns) (vn-(j+1)) r o2=freeF L (L++ns) vn ks out1)∧Hid (o2.length+r.wt≤2000000∧r.wt≤ks.wt)):=by
      intro Lx v' w' hLx ho hg hl
      obtain ⟨r2,c2,hv,_,_⟩:=ho.sl
      subst hv
      have hx:∀(xv:Value) (lx:List (List UInt8)),OwnT wr b xv lx→(∀g,xv.ownBlock=some g→(Value.slice rj oj.length cj).ownBlock≠some g)→∀g,xv.ownBlock=some g→(Value.slice r2 (free1 Lx ⟨k2,t2,ns2,ks2,⟨dk,dn,dt,ds,dd⟩⟩ oj).length c2).ownBlock≠some g:=fun xv lx hxo hxd g e e2=>by
       rcases hl with h|⟨g', h,h3⟩
       ·exact hxd g e (h.symm.trans e2)
       ·rw [h] at e2
        have h1:=(hxo.lt g e).2
        have h2:=Option.some.inj e2
        omega
      have hlen:=free1_len Lx ⟨k2,t2,ns2,ks2,⟨dk,dn,dt,ds,dd⟩⟩ oj
      rw [hwk] at hlen
      have hlk:=HLk.out
      exact ⟨_,r2,c2,rfl,ho,HXj.out.step HVL.out hg hl,HIj.out.grown hg HDj.out,HMj.out.grown hg HDm.out,hx _ _ HIj.out HDj.out,hx _ _ HMj.out HDm.out,by show _=_;rw [HFC.out, ←hLx],⟨by omega,hlk.2⟩⟩
     clear d0 d1 d2 d3 d4 d5 d6 d7 d8 hrf hr hkc2 bel hwk hwr hLj hL1 hbr hb0 HG HAr HOk
     cases b8:k == 8 with
     | true =>
      have hk8:k=8:=by simpa using b8
      rw [if_pos hk8] at hvn
      by_cases hn:j<ns.length
      ·have i2:(j:Int)<(ns.length:Int):=by omega
       have HLx:Hid (L=if vn-j=0 then L++ns else L):=by show _=_;rw [if_neg (by omega)]
       clear hvn hk8 hn
       go_wp2_with fail
       refine (HCC.out L (.slice ia L.length ic) (by omega) HIj.out HDj.out).mono ?_
       rintro e w8 ⟨v', rfl,ho,hg,hl⟩
       obtain ⟨o2,r2,c2,rfl,h1,h2,h3,h4,h5,h6,h7,h8⟩:=HSt.out L v' w8 HLx.out ho hg hl
       clear ho hg hl e0 e1 e2 e3 e4 e5 e6 e7 e8 z0 z1 z2 z3 z4 z5 z6 z7 z8
       go_wp2_with fail
       go_roundw
       case rel=>exact ⟨j+1,r,o2,r2,c2,by go_num,rfl,by omega,Hr2,HAr2,HOr2,h1,h2,h3,h4,h5,h6,h7,h8⟩
       case measure=>simp [intOf];omega
      ·have i2:¬ (j:Int)<(ns.length:Int):=by omega
       have HLx:Hid (L++ns=if vn-j=0 then L++ns else L):=by show _=_;rw [if_pos (by omega)]
       clear hvn hk8 hn
       go_wp2_with fail
       refine (HCC.out (L++ns) (.slice na ml nc7) (by simp) HMj.out HDm.out).mono ?_
       rintro e w8 ⟨v', rfl,ho,hg,hl⟩
       obtain ⟨o2,r2,c2,rfl,h1,h2,h3,h4,h5,h6,h7,h8⟩:=HSt.out (L++ns) v' w8 HLx.out ho hg hl
       clear ho hg hl e0 e1 e2 e3 e4 e5 e6 e7 e8 z0 z1 z2 z3 z4 z5 z6 z7 z8
       go_wp2_with fail
       go_roundw
       case rel=>exact ⟨j+1,r,o2,r2,c2,by go_num,rfl,by omega,Hr2,HAr2,HOr2,h1,h2,h3,h4,h5,h6,h7,h8⟩
       case measure=>simp [intOf];omega
     | false =>
      have hk8:¬ k=8:=by simpa using b8
      rw [if_neg hk8] at hvn
      have HLx:Hid (L++ns=if vn-j=0 then L++ns else L):=by show _=_;rw [if_pos (by omega)]
      clear hvn hk8
      go_wp2_with fail
      refine (HCC.out (L++ns) (.slice na ml nc7) (by simp) HMj.out HDm.out).mono ?_
      rintro e w8 ⟨v', rfl,ho,hg,hl⟩
      obtain ⟨o2,r2,c2,rfl,h1,h2,h3,h4,h5,h6,h7,h8⟩:=HSt.out (L++ns) v' w8 HLx.out ho hg hl
      clear ho hg hl e0 e1 e2 e3 e4 e5 e6 e7 e8 z0 z1 z2 z3 z4 z5 z6 z7 z8
      go_wp2_with fail
      go_roundw
      case rel=>exact ⟨j+1,r,o2,r2,c2,by go_num,rfl,by omega,Hr2,HAr2,HOr2,h1,h2,h3,h4,h5,h6,h7,h8⟩
      case measure=>simp [intOf];omega
theorem rfree_all:∀g:Fm,EachF RFreC g
 | .nil=>trivial
 | .cons k t ns ks dk dn dt ds dd r=>⟨rfree_rec k t ns ks ⟨dk,dn,dt,ds,dd⟩ (rfree_all ks),rfree_all r⟩
theorem rfree_any (f:Frm):RFreC f:=rfree_rec f.kind f.text f.names f.kids f.dat (rfree_all f.kids)
def QtB:Fm→Prop
 | .nil=>True
 | .cons k _ _ ks dk _ _ _ _ r=>(k=1→ks = .nil∧1≤dk∧dk≤5)∧QtB ks∧QtB r
theorem rwr_of (f:Frm) (hF:FOk f) (hk:∃m:Nat,f.kind=(m:Int)∧1≤m∧m<16) (hv:f.kind=8→f.names.length≤f.kids.len) (hq:f.kind=1→f.kids = .nil∧1≤f.dat.k∧f.dat.k≤5) (hall:EachF RWr f.kids):RWr f:=by
 obtain ⟨k,t,ns,ks,d⟩:=f
 obtain ⟨m,rfl,h1,h2⟩:∃m:Nat,k=(m:Int)∧1≤m∧m<16:=hk
 by_cases e2:m=2
 ·exact rwritten_sym _ (by subst e2;rfl)
 by_cases e1:m=1
 ·subst e1
  obtain ⟨q1,q2,q3⟩:=hq rfl
  by_cases hi:itselfB d.k=true
  ·exact rwritten_self _ hF rfl hi
  ·refine rwritten_quote _ hF rfl q1 ?_
   dsimp only at q2 q3 ⊢
   have h:d.k=1∨d.k=2∨d.k=3∨d.k=4∨d.k=5:=by omega
   rcases h with h|h|h|h|h
   ·rw [h] at hi;exact absurd rfl hi
   ·exact .inl h
   ·rw [h] at hi;exact absurd rfl hi
   ·rw [h] at hi;exact absurd rfl hi
   ·exact .inr h
 exact rwritten_list m t ns ks d hF (by omega) h2 (fun e=>hv (by dsimp only;omega)) hall
theorem rwr_all:∀g:Fm,g.oks→ShB g→QtB g→EachF RWr g
 | .nil,_,_,_=>trivial
 | .cons _ _ _ ks _ _ _ _ _ r,⟨hF,hk,hr⟩,⟨h1,h2,h3,h4⟩,⟨q1,q2,q3⟩=>⟨rwr_of _ hF h1 h2 q1 (rwr_all ks hk h3 q2),rwr_all r hr h4 q3⟩
theorem rwritten_any (f:Frm) (hF:FOk f) (hO:f.kids.oks) (hS:ShB (f.fm .nil)) (hQ:QtB (f.fm .nil)):RWr f:=rwr_of f hF hS.1 hS.2.1 hQ.1 (rwr_all f.kids hO hS.2.2.1 hQ.2.1)
theorem can_kind {x:Dt} (h:canB x=true):1≤x.k∧x.k≤5:=by
 have hc:chk (x.fo .nil)=0:=by
  unfold canB writeOf at h
  by_cases h0:chk (x.fo .nil)=0
  ·exact h0
  ·rw [if_pos h0] at h;exact absurd (by simpa using h) h0
 have hd:=(chk_zero.1 hc).1
 simp only [Dt.fo,allD,Bool.and_eq_true] at hd
 rcases isDat_kind hd.1 with h|h|h|h|h<;>omega
theorem qt_of:∀(g:Fm) (inn:Bool),termsE inn g=0→QtB g
 | .nil,_,_=>trivial
 | .cons k t ns ks dk dn dt ds dd r,inn,h=>by
  simp only [termsE] at h
  by_cases h1:termE ⟨k,t,ns,ks,⟨dk,dn,dt,ds,dd⟩⟩ inn=0
  ·rw [if_neg (by simpa using h1)] at h
   by_cases h2:termsE true ks=0
   ·rw [if_neg (by simpa using h2)] at h
    refine ⟨fun hk=>?_,qt_of ks true h2,qt_of r inn h⟩
    have hs:=termE_shaped h1
    unfold shapedB at hs
    rw [if_neg (by dsimp only;omega)] at hs
    simp only [Bool.and_eq_true] at hs
    obtain ⟨⟨⟨⟨ht,_⟩,_⟩,hd⟩,_⟩:=hs
    unfold datFitB at hd
    rw [if_pos hk] at hd
    have hv:valsN ⟨k,t,ns,ks,⟨dk,dn,dt,ds,dd⟩⟩=0:=by unfold valsN;rw [if_neg (by dsimp only;omega)]
    rw [hv] at ht
    subst hk
    have hl:ks.len=0:=by
     have e:shpOf (1:Int).toNat=([113,117,111,116,101],1,0,0):=by decide
     unfold takesB at ht
     rw [e] at ht
     simp only [Bool.and_eq_true,decide_eq_true_eq] at ht
     omega
    refine ⟨?_,can_kind hd⟩
    cases ks with
    | nil=>rfl
    | cons=>simp [Fm.len] at hl
   ·rw [if_pos h2] at h;exact absurd h h2
  ·rw [if_pos h1] at h;exact absurd h h1
structure BIn (w:World) (f:Frm) (nr kr dr:Option Addr) (nc kc:Nat):Prop where
 ok:FOk f
 oks:f.kids.oks
 wt:(f.fm .nil).wt≤900000
 dsz:(f.fm .nil).dsz
 mem:RFo w f nr kr dr
 nc:f.names.length≤nc
 ncs:NcS w kr f.kids
theorem BIn.below {w w' : World} {f:Frm} {nr kr dr:Option Addr} {nc kc:Nat} (h:BIn w f nr kr dr nc kc) (hb:Below w.heap.size w w'):BIn w' f nr kr dr nc kc:=⟨h.ok,h.oks,h.wt,h.dsz,h.mem.below hb,h.nc,h.ncs.below hb⟩
theorem backM_s {w:World} {nr kr dr:Option Addr} {nc kc:Nat} (f:Frm) (h:BIn w f nr kr dr nc kc):(backM f).1.s.len≤maxLen:=by
 have hd:=wrD_ok h.ok h.oks h.wt
 unfold backM
 split
 ·exact Nat.zero_le _
 split
 ·have:=hd.size;have:=Fo.len_size (wrD f).s;unfold maxLen;dsimp only;omega
 ·exact Nat.zero_le _
theorem rback_any (f:Frm) (nr kr dr:Option Addr) (nc kc dc:Nat) (w:World) (hI:BIn w f nr kr dr nc kc) :
  Calls Tryz.prog 24 #[frmV f (.slice nr f.names.length nc) (.slice kr f.kids.len kc) (.slice dr f.dat.s.len dc)] w fun e w' => ∃rk ck,e = .returned (.tuple #[datV (backM f).1 (.slice rk (backM f).1.s.len ck), .int .i64 (backM f).2])∧Below w.heap.size w w' ∧ RS w' rk (backM f).1.s:=by
 obtain ⟨te,hte⟩:∃te,termsE false (f.fm .nil)=te:=⟨_,rfl⟩
 have HBM:Hid (backM f=if te≠0 then (dt0,te) else if canB (wrD f) then (wrD f,0) else (dt0,70)):=by show _=_;unfold backM;rw [hte]
 have HTE:Hid (termsE false (f.fm .nil)=te):=hte
 have HH:Hid (WH w ((w.alloc (Z9 f (.slice nr f.names.length nc) (.slice kr f.kids.len kc) (.slice dr f.dat.s.len dc))).alloc Z5) f (.slice nr f.names.length nc) (.slice kr f.kids.len kc) (.slice dr f.dat.s.len dc)):=WH.new _ _ _ _ _
 have HI:Hid (BIn w f nr kr dr nc kc):=hI
 have HTC:Hid (∀wx,Below w.heap.size w wx→Calls Tryz.prog 75 #[frmV f (.slice nr f.names.length nc) (.slice kr f.kids.len kc) (.slice dr f.dat.s.len dc), .bool true] wx fun e w' => e = .returned (.int .i64 te)∧Below wx.heap.size wx w'):=fun wx hb=>by
  rw [←hte]
  exact rterm_any f true nr kr dr nc kc dc wx hI.ok hI.oks hI.dsz (hI.mem.below hb) hI.nc (hI.ncs.below hb)
 clear hte hI
 go_enter Tryz.func24,Tryz.ntmps24
 go_upto_region 1 with fail
 generalize (w.alloc (Z9 f (.slice nr f.names.length nc) (.slice kr f.kids.len kc) (.slice dr f.dat.s.len dc))).alloc Z5=W1 at *
 obtain ⟨⟨z0,z1,z2,z3,z4,z5,z6,z7,z8⟩,_⟩:=cells9 HH.out.q0
 have lq:=cell_lt z0
 go_wp2_with fail
 refine (HTC.out W1 HH.out.b).mono ?_
 rintro e w2 ⟨rfl,hb2⟩
 have HH2:Hid (WH w w2 f (.slice nr f.names.length nc) (.slice kr f.kids.len kc) (.slice dr f.dat.s.len dc)):=HH.out.step (hb2.mono HH.out.lt)
 clear hb2 z0 z1 z2 z3 z4 z5 z6 z7 z8 lq HTC HH
 by_cases h0:te=0
 case neg =>
  have b0:(te != 0)=true:=by simpa using h0
  have H:Hid (backM f=(dt0,te)):=by show _=_;rw [HBM.out,if_pos h0]
  obtain ⟨y0,y1,y2,y3,y4,yf⟩:=cells5 HH2.out.q1
  have g0:=yf 0
  have g1:=yf 1
  have g2:=yf 2
  have g3:=yf 3
  have g4:=yf 4
  clear yf
  clear h0
  go_wp2_with fail
  refine bodyPost_fives (s:=2) (u:=3) rfl rfl rfl rfl HH2.out.q1 fun W5 o5 b5=>?_
  have hf:=HH2.out.fins (w0:=w) (rk:=none) (s := .nil) (fun _ _ _=>rs_nil _ _) o5 (b5 (w.heap.size) (w.heap.size+1) (by omega))
  rw [H.out]
  exact ⟨none,0,rfl,hf.1,rs_nil _ _⟩
 subst h0
 have HS:=shb_of _ _ HTE.out
 have HQ:=qt_of _ _ HTE.out
 have HRW:Hid (RWr f):=rwritten_any f HI.out.ok HI.out.oks HS HQ
 have HDO:Hid (DOk (wrD f)):=wrD_ok HI.out.ok HI.out.oks HI.out.wt
 have HSZ:Hid ((wrD f).s.size≤999999):=by
  show _≤_
  have h1:=wr1_size f (wrF f.kids)
  have h2:=wrF_size f.kids
  have h3:(f.fm .nil).wt=4+2*f.names.length+f.kids.wt+f.dat.s.size+0:=rfl
  have h4:=HI.out.wt
  unfold wrD
  omega
 obtain ⟨⟨xk,xn,xt,xs,xd⟩,hX⟩:∃X,wrD f=X:=⟨_,rfl⟩
 rw [hX] at HBM HDO HSZ
 have HWK:Hid (Calls Tryz.prog 76 #[frmV f (.slice nr f.names.length nc) (.slice kr f.kids.len kc) (.slice dr f.dat.s.len dc)] w2 fun e w' => ∃rz cz,e = .returned (.agg #[.int .u8 xk, .int .i64 xn,S xt, .slice rz xs.len cz, .bool xd])∧xs.len≤maxLen∧Below w2.heap.size w2 w' ∧ Since w w2.heap.size w' none (fun W=>RS W rz xs)):=(HRW.out w nr kr dr nc kc dc w2 HI.out.mem HH2.out.b).mono (by
  rintro e w' ⟨rz,cz,rfl,h1,h2,h3⟩
  rw [hX] at h1 h3 ⊢
  exact ⟨rz,cz,rfl,h1,h2,h3⟩)
 clear HS HQ hX
 obtain ⟨⟨z0,z1,z2,z3,z4,z5,z6,z7,z8⟩,_⟩:=cells9 HH2.out.q0
 have lq:=cell_lt z0
 go_wp2_with fail
 refine HWK.out.mono ?_
 rintro e w3 ⟨rz,cz,rfl,hxl,hb3,hs3⟩
 obtain ⟨W4,hW4⟩:∃W4,w3.alloc (.cells #[.int .u8 xk, .int .i64 xn, .string ⟨xt.toArray⟩, .slice rz xs.len cz, .bool xd] 32)=W4:=⟨_,rfl⟩
 have a4:Below w3.heap.size w3 W4:=by rw [←hW4];exact (Below.refl _ w3).alloc (Nat.le_refl _) _
 have q4:W4.heap[w3.heap.size]?=some (.cells #[.int .u8 xk, .int .i64 xn,S xt, .slice rz xs.len cz, .bool xd] 32 (0,0)):=by rw [←hW4];exact World.alloc_heap_new w3 _
 have HH4:Hid (WH w W4 f (.slice nr f.names.length nc) (.slice kr f.kids.len kc) (.slice dr f.dat.s.len dc)):=(HH2.out.step (hb3.mono HH2.out.lt)).step (a4.mono (by have:=hb3.size;have:=HH2.out.lt;omega))
 have HS4:Hid (Since w w2.heap.size W4 none (fun W=>RS W rz xs)):=hs3.below a4
 have HQ4:Hid _:=q4
 have HL2:Hid (w.heap.size+2≤w2.heap.size):=HH2.out.lt
 have HL3:Hid (w2.heap.size≤w3.heap.size):=hb3.size
 clear hb3 hs3 a4 q4 z0 z1 z2 z3 z4 z5 z6 z7 z8 lq HWK HH2
 go_upto_region 5 with fail
 clear hW4
 obtain ⟨x0,x1,x2,x3,x4,_⟩:=cells5 HQ4.out
 have lx:=cell_lt x0
 go_wp2_with fail
 refine (right_any ⟨xk,xn,xt,xs,xd⟩ rz cz W4 HSZ.out HDO.out.t HDO.out.tx (HS4.out.now HH4.out.b)).mono ?_
 rintro e w5 ⟨rfl,hb5⟩
 have HH5:Hid (WH w w5 f (.slice nr f.names.length nc) (.slice kr f.kids.len kc) (.slice dr f.dat.s.len dc)):=HH4.out.step (hb5.mono HH4.out.lt)
 have HS5:Hid (Since w w2.heap.size w5 none (fun W=>RS W rz xs)):=HS4.out.below hb5
 have q5:=(hb5.block _ (Array.getElem?_eq_some_iff.1 HQ4.out).1).trans HQ4.out
 obtain ⟨cb,hcb⟩:∃b,canB ⟨xk,xn,xt,xs,xd⟩=b:=⟨_,rfl⟩
 rw [hcb] at HBM ⊢
 clear hb5 x0 x1 x2 x3 x4 lx hcb HH4 HS4 HQ4
 obtain ⟨x0,x1,x2,x3,x4,_⟩:=cells5 q5
 have lx:=cell_lt x0
 cases cb with
 | false =>
  have H:Hid (backM f=(dt0,70)):=by show _=_;rw [HBM.out];rfl
  obtain ⟨y0,y1,y2,y3,y4,yf⟩:=cells5 HH5.out.q1
  have g0:=yf 0
  have g1:=yf 1
  have g2:=yf 2
  have g3:=yf 3
  have g4:=yf 4
  clear yf
  go_wp2_with fail
  refine bodyPost_fives (s:=2) (u:=3) rfl rfl rfl rfl HH5.out.q1 fun W5 o5 b5=>?_
  have hf:=HH5.out.fins (w0:=w) (rk:=none) (s := .nil) (fun _ _ _=>rs_nil _ _) o5 (b5 (w.heap.size) (w.heap.size+1) (by omega))
  rw [H.out]
  exact ⟨none,0,rfl,hf.1,rs_nil _ _⟩
 | true =>
  have H:Hid (backM f=(⟨xk,xn,xt,xs,xd⟩,0)):=by show _=_;rw [HBM.out];rfl
  obtain ⟨y0,y1,y2,y3,y4,yf⟩:=cells5 HH5.out.q1
  have g0:=yf 0
  have g1:=yf 1
  have g2:=yf 2
  have g3:=yf 3
  have g4:=yf 4
  clear yf
  go_wp2_with fail
  refine bodyPost_fives (s:=2) (u:=3) rfl rfl rfl rfl HH5.out.q1 fun W5 o5 b5=>?_
  have hf:=HH5.out.fins (HS5.out.mono HL2.out |>.mono (Nat.le_refl _)) o5 (b5 (w.heap.size) (w.heap.size+1) (by omega))
  rw [H.out]
  exact ⟨rz,cz,rfl,hf.1,hf.2.now hf.1⟩
theorem rcheck_any (f:Frm) (nr kr dr:Option Addr) (nc kc dc:Nat) (w:World) (hI:BIn w f nr kr dr nc kc) :
  Calls Tryz.prog 78 #[frmV f (.slice nr f.names.length nc) (.slice kr f.kids.len kc) (.slice dr f.dat.s.len dc)] w fun e w' => e = .returned (.int .i64 (backM f).2)∧Below w.heap.size w w' := by
 obtain ⟨W1,hW1⟩:∃W1,w.alloc (Z9 f (.slice nr f.names.length nc) (.slice kr f.kids.len kc) (.slice dr f.dat.s.len dc))=W1:=⟨_,rfl⟩
 have a1:=(Below.refl _ w).alloc (Nat.le_refl w.heap.size) (Z9 f (.slice nr f.names.length nc) (.slice kr f.kids.len kc) (.slice dr f.dat.s.len dc))
 have q0:=World.alloc_heap_new w (Z9 f (.slice nr f.names.length nc) (.slice kr f.kids.len kc) (.slice dr f.dat.s.len dc))
 rw [hW1] at a1 q0
 have HB1:Hid (Below w.heap.size w W1):=a1
 have HC:=rback_any f nr kr dr nc kc dc W1 (hI.below a1)
 have HL:=backM_s f hI
 obtain ⟨⟨⟨xk,xn,xt,xs,xd⟩,xe⟩,hX⟩:∃X,backM f=X:=⟨_,rfl⟩
 rw [hX] at HC ⊢
 have HCC:Hid (Calls Tryz.prog 24 #[frmV f (.slice nr f.names.length nc) (.slice kr f.kids.len kc) (.slice dr f.dat.s.len dc)] W1 fun e w' => ∃rk ck,e = .returned (.tuple #[.agg #[.int .u8 xk, .int .i64 xn,S xt, .slice rk xs.len ck, .bool xd], .int .i64 xe])∧Below W1.heap.size W1 w' ∧ RS w' rk xs):=HC
 obtain ⟨⟨z0,z1,z2,z3,z4,z5,z6,z7,z8⟩,_⟩:=cells9 q0
 have lq:=cell_lt z0
 clear HC HL hX a1 q0 hI
 go_enter Tryz.func78,Tryz.ntmps78
 go_upto_region 1 with fail
 clear hW1
 go_wp2_with fail
 refine HCC.out.mono ?_
 rintro e w2 ⟨rk,ck,rfl,hb2,_⟩
 have HB2:Hid (Below w.heap.size w w2):=HB1.out.trans (hb2.mono HB1.out.size)
 clear hb2 z0 z1 z2 z3 z4 z5 z6 z7 z8 lq
 go_wp2_with fail
 go_ret
 exact ⟨rfl,HB2.out.alloc HB2.out.size _⟩
theorem rnames_any (f:Frm) (nr kr dr:Option Addr) (nc kc dc:Nat) (w:World) (hI:BIn w f nr kr dr nc kc) :
  Calls Tryz.prog 25 #[frmV f (.slice nr f.names.length nc) (.slice kr f.kids.len kc) (.slice dr f.dat.s.len dc)] w fun e w' => ∃v,e = .returned v∧OwnT w' w.heap.size v (usesM f)∧Below w.heap.size w w' := by
 obtain ⟨W1,hW1⟩:∃W1,w.alloc (Z9 f (.slice nr f.names.length nc) (.slice kr f.kids.len kc) (.slice dr f.dat.s.len dc))=W1:=⟨_,rfl⟩
 have a1:=(Below.refl _ w).alloc (Nat.le_refl w.heap.size) (Z9 f (.slice nr f.names.length nc) (.slice kr f.kids.len kc) (.slice dr f.dat.s.len dc))
 have q0:=World.alloc_heap_new w (Z9 f (.slice nr f.names.length nc) (.slice kr f.kids.len kc) (.slice dr f.dat.s.len dc))
 rw [hW1] at a1 q0
 have HB1:Hid (Below w.heap.size w W1):=a1
 have HC:=rcheck_any f nr kr dr nc kc dc W1 (hI.below a1)
 have HN:Hid (usesM f=if (backM f).2≠0 then [] else free1 [] f []):=names_eq f
 obtain ⟨xe,hX⟩:∃X,(backM f).2=X:=⟨_,rfl⟩
 rw [hX] at HC HN
 have HCC:Hid (Calls Tryz.prog 78 #[frmV f (.slice nr f.names.length nc) (.slice kr f.kids.len kc) (.slice dr f.dat.s.len dc)] W1 fun e w' => e = .returned (.int .i64 xe)∧Below W1.heap.size W1 w'):=HC
 have HI:Hid (BIn w f nr kr dr nc kc):=hI
 have HFC:Hid (∀wx,Below w.heap.size w wx→Calls Tryz.prog 79 #[frmV f (.slice nr f.names.length nc) (.slice kr f.kids.len kc) (.slice dr f.dat.s.len dc), .slice none 0 0, .slice none 0 0] wx fun e w' => ∃v', e = .returned v' ∧ OwnT w' wx.heap.size v' (free1 [] f [])∧wx.grownBy w' none):=fun wx hb=>(rfree_any f w nr kr dr nc kc dc wx wx.heap.size [] [] (.slice none 0 0) (.slice none 0 0) hI.mem hb hb.size (Nat.le_refl _) (World.ownsRow_nil _ _ _ _) (World.ownsRow_nil _ _ _ _) (by rintro g ⟨⟩) hI.ok hI.oks (by have:=hI.wt;simp;omega) (by have:=hI.wt;simp;omega)).mono (by
  rintro e w' ⟨v,rfl,h1,h2,_⟩
  exact ⟨v,rfl,h1,h2⟩)
 obtain ⟨⟨z0,z1,z2,z3,z4,z5,z6,z7,z8⟩,_⟩:=cells9 q0
 have HQ0:Hid _:=q0
 have lq:=cell_lt z0
 clear HC hX a1 q0 hI
 go_enter Tryz.func25,Tryz.ntmps25
 go_upto_region 1 with fail
 clear hW1
 go_wp2_with fail
 refine HCC.out.mono ?_
 rintro e w2 ⟨rfl,hb2⟩
 have HB2:Hid (Below w.heap.size w w2):=HB1.out.trans (hb2.mono HB1.out.size)
 have HQ2:Hid _:=(hb2.block _ (Array.getElem?_eq_some_iff.1 HQ0.out).1).trans HQ0.out
 clear hb2 z0 z1 z2 z3 z4 z5 z6 z7 z8 lq HCC
 obtain ⟨⟨z0,z1,z2,z3,z4,z5,z6,z7,z8⟩,_⟩:=cells9 HQ2.out
 have lq:=cell_lt z0
 by_cases h0:xe=0
 case neg =>
  have b0:(xe != 0)=true:=by simpa using h0
  have H:Hid (usesM f=[]):=by show _=_;rw [HN.out,if_pos h0]
  clear h0
  go_wp2_with fail
  go_ret
  refine ⟨.slice none 0 0,rfl,?_,HB2.out⟩
  rw [H.out]
  exact World.ownsRow_nil _ _ _ _
 subst h0
 have H:Hid (usesM f=free1 [] f []):=by show _=_;rw [HN.out,if_neg (by simp)]
 go_wp2_with fail
 refine (HFC.out w2 HB2.out).mono ?_
 rintro e w3 ⟨v,rfl,hO,hg⟩
 have HO3:Hid (OwnT w3 w2.heap.size v (free1 [] f [])):=hO
 have HB3:Hid (Below w.heap.size w w3):=HB2.out.trans (Below.mono ⟨hg.os,hg.tape,hg.output,hg.size,fun g h1=>hg.block g h1 (by simp)⟩ HB2.out.size)
 clear hO hg z0 z1 z2 z3 z4 z5 z6 z7 z8 lq
 go_wp2_with fail
 go_ret
 refine ⟨v,rfl,?_,HB3.out⟩
 rw [H.out]
 exact own_mono HO3.out HB2.out.size
end Go.Proofs.YtkgnigloboajcaaGreatDoor
